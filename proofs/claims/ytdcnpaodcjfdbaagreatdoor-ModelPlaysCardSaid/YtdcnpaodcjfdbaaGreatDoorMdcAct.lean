/- Several texts in one: MdcActs, MdcCall, MdcWrite, MdcGet, MdcCalc. -/
import Derived.Test.YtdcnpaodcjfdbaaGreatDoorMdcBase
import Derived.Test.YtdcnpaodcjfdbaaGreatDoorFloatCode
import Derived.RegionDies
import Derived.Deep.RegionHeld
/- Layer 19 (model): what the changes do: Return's, Set's. -/
namespace Go.Proofs.YtdcnpaodcjfdbaaGreatDoor
open Go.RowKit
set_option linter.unusedVariables false

theorem ChgTo.drew {w W : World} {q : Nat} {L M : Afs} {w' : World} (h : ChgTo w W q L (M, 0) (.returned (.tuple #[])) w') : ChgTo w W q L (M, 0) (.returned (.tuple #[])) w'.drew := by
  unfold ChgTo at *
  rw [if_pos rfl] at *
  obtain ⟨e, A, n, c, zs, h1, h2, h3, h4, h5, h6⟩ := h
  exact ⟨e, A, n, c, zs, h1, h2.below (belF_dr (Below.refl _ _)), h3, h4, h5, belF_dr h6⟩
section
variable {w W : World} {tp : Option Addr} {q : Nat} {A : Option Addr} {n c : Nat} {us : List AfS} {lo hi : Nat} {l : Fns} {L : Afs}
set_option maxRecDepth 100000 in
theorem c_ret1 (h : ChgAt w W tp q A n c us) (hL : afvals us = L) (hR : mdRight l L = true) (hn : n ≤ 1000000) :
    Calls Tryz.prog 49 #[.pointer (some ⟨q, 0, none⟩)] W (ChgTo w W q L (mdReturn l L)) := by
  have hlen : L.length = n := by rw [← hL, afvals_length, h.len]
  have c1 := h.c1
  have c0 := h.c0
  have cf := h.fz 1
  by_cases h2 : n < 2
  · have E : mdReturn l L = (L, 8) := by unfold mdReturn; rw [if_neg (by rw [hR]; simp), if_pos (by omega)]
    rw [E]
    have P : Hid (∀ W', Below W.heap.size W W' → ChgTo w W q L (L, 8) (.panicked [{ v := .iface (thrT 8) (.agg #[]), recovered := false }]) W') := hidb (fun W' hb => ⟨⟨rfl, hb⟩, rfl, by unfold ErrOf; simp⟩)
    clear h hL hR hlen E
    --@1
    go_enter Tryz.func49, Tryz.ntmps49
    go_wp2
    exact ⟨rfl, P.out _ (Below.refl _ _)⟩
  · have E : mdReturn l L = (L.take (n - 1), 0) := by unfold mdReturn; rw [if_neg (by rw [hR]; simp), if_neg (by omega), hlen]
    rw [E]
    obtain ⟨k1, k2, k3⟩ := h.own.row h.len
    have P : Hid (ChgTo w W q L (L.take (n - 1), 0) (.returned (.tuple #[])) (W.setCell ⟨q, 1, none⟩ (.slice A (n - 1) c))) := hidb (by
      have hp := h.own.asideQ h.obj h.low 1 (.slice A (n - 1) c)
      obtain ⟨r1, r2, r3⟩ := hp.row h.len
      unfold ChgTo
      rw [if_pos rfl]
      exact ⟨rfl, A, n - 1, c, us.take (n - 1), World.cell?_setCell_same _ _ _ c1, r1.take (by omega), by rw [← hL]; unfold afvals; rw [List.map_take], by omega, r3, hp.bel⟩)
    have e1 : IntKind.i64.wrap ((n : Int) - 1) = (n : Int) - 1 := by simp [IntKind.wrap, IntKind.bits, IntKind.signed]; omega
    have e2 : (1 : Int) ≤ (n : Int) := by omega
    have e3 : (0 : Int) ≤ (n : Int) - 1 := by omega
    have e4 : ((n : Int) - 1).toNat = n - 1 := by omega
    have e5 : (n : Int) - 1 ≤ (c : Int) := by omega
    clear h hL hR hlen E k1
    --@2
    go_enter Tryz.func49, Tryz.ntmps49
    go_wp2
    go_region
    exact bodyPost_end (v := .tuple #[]) (by simp [results, Tryz.results49, go_sem]) rfl P.out.drew
/-- Captured numbers, and a captured value. -/
structure SetIn (W : World) (db ib vb : Nat) (d i : Int) (v : VlV) : Prop where
  d0 : W.cell? ⟨db, 0, none⟩ = some (.int .i64 d)
  i0 : W.cell? ⟨ib, 0, none⟩ = some (.int .i64 i)
  v0 : W.cell? ⟨vb, 0, none⟩ = some (.int .u8 (v.kind : Int)) ∧ W.cell? ⟨vb, 1, none⟩ = some (.int .u64 (v.bits : Int)) ∧ W.cell? ⟨vb, 2, none⟩ = some (.int .i64 v.depth) ∧ W.cell? ⟨vb, 3, none⟩ = some (.int .i64 v.slot)
  low : db < W.heap.size ∧ ib < W.heap.size ∧ vb < W.heap.size
theorem SetIn.below {W W' : World} {db ib vb : Nat} {d i : Int} {v : VlV} (h : SetIn W db ib vb d i v) (hb : Below W.heap.size W W') : SetIn W' db ib vb d i v := by
  obtain ⟨l1, l2, l3⟩ := h.low
  obtain ⟨v0, v1, v2, v3⟩ := h.v0
  have := hb.size
  exact ⟨(hb.cell (p := ⟨db, 0, none⟩) l1).trans h.d0, (hb.cell (p := ⟨ib, 0, none⟩) l2).trans h.i0, ⟨(hb.cell (p := ⟨vb, 0, none⟩) l3).trans v0, (hb.cell (p := ⟨vb, 1, none⟩) l3).trans v1, (hb.cell (p := ⟨vb, 2, none⟩) l3).trans v2, (hb.cell (p := ⟨vb, 3, none⟩) l3).trans v3⟩, by omega, by omega, by omega⟩
set_option maxRecDepth 100000 in
set_option maxHeartbeats 4000000 in
theorem c_set1 (h : ChgAt w W tp q A n c us) (ht : TbO W lo hi tp l) (hhi : hi ≤ W.heap.size) (hL : afvals us = L) (hR : mdRight l L = true) (hn : n ≤ 1000000) {db ib vb : Nat} {d i : Int} {v : VlV} (hd : in64 d) (hi64 : in64 i) (hv : VIn v) (hc : SetIn W db ib vb d i v) :
    Calls Tryz.prog 56 #[.pointer (some ⟨q, 0, none⟩), .pointer (some ⟨db, 0, none⟩), .pointer (some ⟨ib, 0, none⟩), .pointer (some ⟨vb, 0, none⟩)] W (ChgTo w W q L (mdSet l L d i v)) := by
  have HX : Hid (∀ W', Below W.heap.size W W' → (W'.cell? ⟨q, 0, none⟩ = some (.pointer tp) ∧ W'.cell? ⟨q, 1, none⟩ = some (.slice A n c)) ∧ W'.cell? ⟨db, 0, none⟩ = some (.int .i64 d) ∧ W'.cell? ⟨ib, 0, none⟩ = some (.int .i64 i) ∧ W'.cell? ⟨vb, 0, none⟩ = some (.int .u8 (v.kind : Int)) ∧ W'.cell? ⟨vb, 1, none⟩ = some (.int .u64 (v.bits : Int)) ∧ W'.cell? ⟨vb, 2, none⟩ = some (.int .i64 v.depth) ∧ W'.cell? ⟨vb, 3, none⟩ = some (.int .i64 v.slot)) := hidb (fun W' hb => by
    have h1 := h.below hb
    have h2 := hc.below hb
    exact ⟨⟨h1.c0, h1.c1⟩, h2.d0, h2.i0, h2.v0⟩)
  have PT : Hid (∀ W' r, Below W.heap.size W W' → ErrOf r → ChgTo w W q L (L, r) (.panicked [{ v := .iface (thrT r) (.agg #[]), recovered := false }]) W') := hidb (fun W' r hb he => by
    have h0 : r ≠ 0 := by unfold ErrOf at he; omega
    unfold ChgTo
    rw [if_neg h0]
    exact ⟨⟨rfl, hb⟩, rfl, he⟩)
  obtain ⟨⟨a0, a1⟩, a2, a3, a4, a5, a6, a7⟩ := HX.out W (Below.refl _ _)
  subst hL
  cases hh : mdHas (afvals us) d i with
  | false =>
    have E : mdSet l (afvals us) d i v = (afvals us, 2) := by unfold mdSet; rw [if_neg (by rw [hR]; simp), if_pos hh]
    rw [E]
    have CS : Hid (∀ W', Below W.heap.size W W' → Calls Tryz.prog 57 #[.agg #[.pointer tp, .slice A n c], .int .i64 d, .int .i64 i] W' (Threw19 2 W')) := hidb (fun W' hb => c_rslot_no (h.below hb).row hn d i hd hi64 hh)
    unfold Threw19 at CS
    clear h ht hR hc hh E
    --@3
    go_enter Tryz.func56, Tryz.ntmps56
    go_wp2
    go_region_dies
    all_goals (go_at_call 57; (with_reducible refine (CS.out _ (by (repeat (first | with_reducible exact Below.refl _ _ | with_reducible exact Hid.out (by assumption) | with_reducible apply belF_al | with_reducible apply belF_dr)))).mono ?_); rintro e w2 ⟨rfl, hb2⟩; exact ⟨rfl, PT.out _ 2 (belF_tr (belF_dr (Below.refl _ _)) hb2) (by unfold ErrOf; simp)⟩)
  | true =>
    have CS : Hid (∀ W', Below W.heap.size W W' → Calls Tryz.prog 57 #[.agg #[.pointer tp, .slice A n c], .int .i64 d, .int .i64 i] W' fun e w' => ∃ q, e = .returned (.pointer (some q)) ∧ SlotAt us d i q ∧ Below W'.heap.size W' w') := hidb (fun W' hb => c_rslot (h.below hb).row hn d i hd hi64 hh)
    obtain ⟨h0, h1, h2, h3⟩ := mdHas_iff.1 hh
    rw [afvals_length, h.len] at h1
    have hdn : ((d.toNat : Nat) : Int) = d := by omega
    have CA : Hid (∀ W', Below W.heap.size W W' → Calls Tryz.prog 53 #[.agg #[.pointer tp, .slice A n c], .int .i64 d, .int .i64 i, .agg #[.int .u8 (v.kind : Int), .int .u64 (v.bits : Int), .int .i64 v.depth, .int .i64 v.slot]] W' fun e w' => e = .returned (agV (mdFits l (afvals us) d.toNat i v)) ∧ Below W'.heap.size W' w') := hidb (fun W' hb => by
      have := c_against (c := c) (ht.below (hb.mono hhi)) (Nat.le_trans hhi hb.size) (h.below hb).row hn d.toNat (by omega) i hi64 v hv _ rfl
      rw [hdn] at this
      exact this)
    have HH := hidb h
    by_cases hf : mdFits l (afvals us) d.toNat i v = 0
    · have E : mdSet l (afvals us) d i v = (mdWith (afvals us) d.toNat i.toNat v, 0) := by unfold mdSet; rw [if_neg (by rw [hR]; simp), if_neg (by rw [hh]; simp), if_neg (fun c => c hf)]
      rw [E]
      rw [hf, ag_zero] at CA
      have qn := fun W => nil_neq W
      clear h ht hR hc hh E hf h0 h1 h2 h3 hdn
      --@4
      go_enter Tryz.func56, Tryz.ntmps56
      go_wp2
      (first | go_region_held3 (fun W => (W.cell? ⟨q, 0, none⟩ = some (.pointer tp) ∧ W.cell? ⟨q, 1, none⟩ = some (.slice A n c)) ∧ W.cell? ⟨db, 0, none⟩ = some (.int .i64 d) ∧ W.cell? ⟨ib, 0, none⟩ = some (.int .i64 i) ∧ W.cell? ⟨vb, 0, none⟩ = some (.int .u8 (v.kind : Int)) ∧ W.cell? ⟨vb, 1, none⟩ = some (.int .u64 (v.bits : Int)) ∧ W.cell? ⟨vb, 2, none⟩ = some (.int .i64 v.depth) ∧ W.cell? ⟨vb, 3, none⟩ = some (.int .i64 v.slot))
        (first | ((with_reducible refine HX.out _ ?_); (repeat (first | with_reducible exact Below.refl _ _ | with_reducible exact Hid.out (by assumption) | with_reducible apply belF_al | with_reducible apply belF_dr)); done) | (go_keep; done))
        (first | (go_at_call 57; (with_reducible refine (CS.out _ (by (repeat (first | with_reducible exact Below.refl _ _ | with_reducible exact Hid.out (by assumption) | with_reducible apply belF_al | with_reducible apply belF_dr)))).mono ?_); rintro e w2 ⟨p, rfl, hp, hb2⟩; have HB2 := hidb (belF_tr (belF_dr (Below.refl _ _)) hb2); have hc2 := HX.out w2 HB2.out; have HP := hidb hp; clear hb2 hp)) | fail)
      go_wp2
      clear a0 a1 a2 a3 a4 a5 a6 a7
      have HX2 : Hid (∀ W', Below w2.heap.size w2 W' → (W'.cell? ⟨q, 0, none⟩ = some (.pointer tp) ∧ W'.cell? ⟨q, 1, none⟩ = some (.slice A n c)) ∧ W'.cell? ⟨db, 0, none⟩ = some (.int .i64 d) ∧ W'.cell? ⟨ib, 0, none⟩ = some (.int .i64 i) ∧ W'.cell? ⟨vb, 0, none⟩ = some (.int .u8 (v.kind : Int)) ∧ W'.cell? ⟨vb, 1, none⟩ = some (.int .u64 (v.bits : Int)) ∧ W'.cell? ⟨vb, 2, none⟩ = some (.int .i64 v.depth) ∧ W'.cell? ⟨vb, 3, none⟩ = some (.int .i64 v.slot)) := hidb (fun W' hb => HX.out W' (belF_tr HB2.out hb))
      (first | go_region_held3 (fun W => (W.cell? ⟨q, 0, none⟩ = some (.pointer tp) ∧ W.cell? ⟨q, 1, none⟩ = some (.slice A n c)) ∧ W.cell? ⟨db, 0, none⟩ = some (.int .i64 d) ∧ W.cell? ⟨ib, 0, none⟩ = some (.int .i64 i) ∧ W.cell? ⟨vb, 0, none⟩ = some (.int .u8 (v.kind : Int)) ∧ W.cell? ⟨vb, 1, none⟩ = some (.int .u64 (v.bits : Int)) ∧ W.cell? ⟨vb, 2, none⟩ = some (.int .i64 v.depth) ∧ W.cell? ⟨vb, 3, none⟩ = some (.int .i64 v.slot))
        (first | ((with_reducible refine HX2.out _ ?_); (repeat (first | with_reducible exact Below.refl _ _ | with_reducible exact Hid.out (by assumption) | with_reducible apply belF_al | with_reducible apply belF_dr)); done) | (go_keep; done))
        (first | (go_at_call 53; (with_reducible refine (CA.out _ (belF_tr HB2.out (by (repeat (first | with_reducible exact Below.refl _ _ | with_reducible exact Hid.out (by assumption) | with_reducible apply belF_al | with_reducible apply belF_dr))))).mono ?_); rintro e w3 ⟨rfl, hb3⟩; have HB3 := hidb (belF_tr HB2.out (belF_tr (belF_dr (Below.refl _ _)) hb3)); have hc3 := HX.out w3 HB3.out; clear hb3)) | fail)
      clear hc2
      obtain ⟨g, o, rfl, ⟨u0, u1, u2, u3⟩, ⟨f0, f1, f2, f3⟩, hto⟩ := (HH.out.below HB3.out).set4 HP.out v hv (afvals us) rfl
      obtain ⟨y0, u0⟩ := Option.isSome_iff_exists.1 u0
      obtain ⟨y1, u1⟩ := Option.isSome_iff_exists.1 u1
      obtain ⟨y2, u2⟩ := Option.isSome_iff_exists.1 u2
      obtain ⟨y3, u3⟩ := Option.isSome_iff_exists.1 u3
      obtain ⟨⟨b0, b1⟩, b2, b3, b4, b5, b6, b7⟩ := hc3
      have HTO := hidb hto
      clear hto
      go_wp2
      exact bodyPost_end (v := .tuple #[]) (by simp [results, Tryz.results56, go_sem]) rfl HTO.out
    · have he : ErrOf (mdFits l (afvals us) d.toNat i v) := by
        unfold mdFits ErrOf at *
        split
        · simp
        · split
          · simp
          · split
            · simp
            · split
              · simp
              · rename_i a1 a2 a3 a4; rw [if_neg a1, if_neg a2, if_neg a3, if_neg a4] at hf; exact absurd rfl hf
      have E : mdSet l (afvals us) d i v = (afvals us, mdFits l (afvals us) d.toNat i v) := by unfold mdSet; rw [if_neg (by rw [hR]; simp), if_neg (by rw [hh]; simp), if_pos hf]
      rw [E]
      obtain ⟨T, hT, hT2⟩ := ag_some hf
      have PT2 : Hid (∀ W', Below W.heap.size W W' → ChgTo w W q (afvals us) (afvals us, mdFits l (afvals us) d.toNat i v) (.panicked [{ v := .iface T (.agg #[]), recovered := false }]) W') := hidb (fun W' hb => by rw [hT2]; exact PT.out W' _ hb he)
      rw [hT] at CA
      have qn := fun W => one_neq W T
      generalize mdFits l (afvals us) d.toNat i v = r at *
      clear h ht hR hc hh E hf h0 h1 h2 h3 hdn hT hT2 he
      --@5
      go_enter Tryz.func56, Tryz.ntmps56
      go_wp2
      (first | go_region_held3 (fun W => (W.cell? ⟨q, 0, none⟩ = some (.pointer tp) ∧ W.cell? ⟨q, 1, none⟩ = some (.slice A n c)) ∧ W.cell? ⟨db, 0, none⟩ = some (.int .i64 d) ∧ W.cell? ⟨ib, 0, none⟩ = some (.int .i64 i) ∧ W.cell? ⟨vb, 0, none⟩ = some (.int .u8 (v.kind : Int)) ∧ W.cell? ⟨vb, 1, none⟩ = some (.int .u64 (v.bits : Int)) ∧ W.cell? ⟨vb, 2, none⟩ = some (.int .i64 v.depth) ∧ W.cell? ⟨vb, 3, none⟩ = some (.int .i64 v.slot))
        (first | ((with_reducible refine HX.out _ ?_); (repeat (first | with_reducible exact Below.refl _ _ | with_reducible exact Hid.out (by assumption) | with_reducible apply belF_al | with_reducible apply belF_dr)); done) | (go_keep; done))
        (first | (go_at_call 57; (with_reducible refine (CS.out _ (by (repeat (first | with_reducible exact Below.refl _ _ | with_reducible exact Hid.out (by assumption) | with_reducible apply belF_al | with_reducible apply belF_dr)))).mono ?_); rintro e w2 ⟨p, rfl, hp, hb2⟩; have HB2 := hidb (belF_tr (belF_dr (Below.refl _ _)) hb2); have hc2 := HX.out w2 HB2.out; have HP := hidb hp; clear hb2 hp)) | fail)
      go_wp2
      clear a0 a1 a2 a3 a4 a5 a6 a7
      have HX2 : Hid (∀ W', Below w2.heap.size w2 W' → (W'.cell? ⟨q, 0, none⟩ = some (.pointer tp) ∧ W'.cell? ⟨q, 1, none⟩ = some (.slice A n c)) ∧ W'.cell? ⟨db, 0, none⟩ = some (.int .i64 d) ∧ W'.cell? ⟨ib, 0, none⟩ = some (.int .i64 i) ∧ W'.cell? ⟨vb, 0, none⟩ = some (.int .u8 (v.kind : Int)) ∧ W'.cell? ⟨vb, 1, none⟩ = some (.int .u64 (v.bits : Int)) ∧ W'.cell? ⟨vb, 2, none⟩ = some (.int .i64 v.depth) ∧ W'.cell? ⟨vb, 3, none⟩ = some (.int .i64 v.slot)) := hidb (fun W' hb => HX.out W' (belF_tr HB2.out hb))
      (first | go_region_held3 (fun W => (W.cell? ⟨q, 0, none⟩ = some (.pointer tp) ∧ W.cell? ⟨q, 1, none⟩ = some (.slice A n c)) ∧ W.cell? ⟨db, 0, none⟩ = some (.int .i64 d) ∧ W.cell? ⟨ib, 0, none⟩ = some (.int .i64 i) ∧ W.cell? ⟨vb, 0, none⟩ = some (.int .u8 (v.kind : Int)) ∧ W.cell? ⟨vb, 1, none⟩ = some (.int .u64 (v.bits : Int)) ∧ W.cell? ⟨vb, 2, none⟩ = some (.int .i64 v.depth) ∧ W.cell? ⟨vb, 3, none⟩ = some (.int .i64 v.slot))
        (first | ((with_reducible refine HX2.out _ ?_); (repeat (first | with_reducible exact Below.refl _ _ | with_reducible exact Hid.out (by assumption) | with_reducible apply belF_al | with_reducible apply belF_dr)); done) | (go_keep; done))
        (first | (go_at_call 53; (with_reducible refine (CA.out _ (belF_tr HB2.out (by (repeat (first | with_reducible exact Below.refl _ _ | with_reducible exact Hid.out (by assumption) | with_reducible apply belF_al | with_reducible apply belF_dr))))).mono ?_); rintro e w3 ⟨rfl, hb3⟩; have HB3 := hidb (belF_tr HB2.out (belF_tr (belF_dr (Below.refl _ _)) hb3)); have hc3 := HX.out w3 HB3.out; clear hb3)) | fail)
      clear hc2
      clear hc3
      go_wp2
      exact ⟨rfl, PT2.out _ HB3.out⟩
end
end Go.Proofs.YtdcnpaodcjfdbaaGreatDoor

/- Layer 19 (model): what Call's change does. -/
namespace Go.Proofs.YtdcnpaodcjfdbaaGreatDoor
open Go.RowKit
set_option linter.unusedVariables false

section
variable {w W : World} {tp : Option Addr} {q : Nat} {A : Option Addr} {n c : Nat} {us : List AfS} {lo hi : Nat} {l : Fns} {L : Afs}
set_option maxRecDepth 100000 in
set_option maxHeartbeats 4000000 in
theorem c_call1 (h : ChgAt w W tp q A n c us) (ht : TbO W lo hi tp l) (hhi : hi ≤ W.heap.size) (hl : ∀ x ∈ l, 0 ≤ x.1 ∧ x.1 ≤ 1000) (hL : afvals us = L) (hR : mdRight l L = true) (hn : n ≤ 1000000) {fb : Nat} {f : Int} (hf : in64 f) (hfb : fb < W.heap.size) (hfc : W.cell? ⟨fb, 0, none⟩ = some (.int .i64 f)) :
    Calls Tryz.prog 46 #[.pointer (some ⟨q, 0, none⟩), .pointer (some ⟨fb, 0, none⟩)] W (ChgTo w W q L (mdCall l L f)) := by
  obtain ⟨i1, hi1, hy0, hy1, hy2⟩ := info_parts info_af
  have HX : Hid (∀ W', Below W.heap.size W W' → (W'.cell? ⟨q, 0, none⟩ = some (.pointer tp) ∧ W'.cell? ⟨q, 1, none⟩ = some (.slice A n c)) ∧ W'.cell? ⟨fb, 0, none⟩ = some (.int .i64 f)) := hidb (fun W' hb => by
    have h1 := h.below hb
    exact ⟨⟨h1.c0, h1.c1⟩, (hb.cell (p := ⟨fb, 0, none⟩) hfb).trans hfc⟩)
  have PT : Hid (∀ W', Below W.heap.size W W' → ChgTo w W q L (L, 1) (.panicked [{ v := .iface (thrT 1) (.agg #[]), recovered := false }]) W') := hidb (fun W' hb => ⟨⟨rfl, hb⟩, rfl, by unfold ErrOf; simp⟩)
  obtain ⟨⟨a0, a1⟩, a2⟩ := HX.out W (Below.refl _ _)
  have KS : Hid (∀ W', Below W.heap.size W W' → Calls Tryz.prog 47 #[.pointer tp, .int .i64 f] W' fun e w' => e = .returned (.int .i64 (fSize l f)) ∧ Below W'.heap.size W' w') := hidb (fun W' hb => code_fsize (ht.below (hb.mono hhi)) (Nat.le_trans hhi hb.size) f)
  have hz := fSize_range hl f
  by_cases h0 : fSize l f < 0
  · have E : mdCall l L f = (L, 1) := by unfold mdCall; rw [if_neg (by rw [hR]; simp), if_pos h0]
    rw [E]
    generalize fSize l f = z at *
    clear h ht hR E hL
    --@1
    go_enter Tryz.func46, Tryz.ntmps46
    go_wp2
    (first | go_region_held3 (fun W => (W.cell? ⟨q, 0, none⟩ = some (.pointer tp) ∧ W.cell? ⟨q, 1, none⟩ = some (.slice A n c)) ∧ W.cell? ⟨fb, 0, none⟩ = some (.int .i64 f))
      (first | ((with_reducible refine HX.out _ ?_); (repeat (first | with_reducible exact Below.refl _ _ | with_reducible exact Hid.out (by assumption) | with_reducible apply belF_al | with_reducible apply belF_dr)); done) | (go_keep; done))
      (first | (go_at_call 47; (with_reducible refine (KS.out _ (by (repeat (first | with_reducible exact Below.refl _ _ | with_reducible exact Hid.out (by assumption) | with_reducible apply belF_al | with_reducible apply belF_dr)))).mono ?_); rintro e w2 ⟨rfl, hb2⟩; have HB2 := hidb (belF_tr (belF_dr (Below.refl _ _)) hb2); have hc2 := HX.out w2 HB2.out; clear hb2)) | fail)
    go_wp2
    exact ⟨rfl, PT.out _ HB2.out⟩
  · obtain ⟨sz, hsz⟩ : ∃ sz : Nat, fSize l f = (sz : Int) := ⟨(fSize l f).toNat, by omega⟩
    have E : mdCall l L f = (L ++ [(f, mdNew l f sz)], 0) := by unfold mdCall; rw [if_neg (by rw [hR]; simp), if_neg h0, hsz, Int.toNat_natCast]
    rw [E]
    have KF : Hid (∀ W', Below W.heap.size W W' → Calls Tryz.prog 48 #[.agg #[.pointer tp, .slice A n c], .int .i64 f] W' (FreshTo W' f (mdNew l f sz))) := hidb (fun W' hb => c_fresh (ht.below (hb.mono hhi)) (Nat.le_trans hhi hb.size) f sz hsz (by omega))
    rw [hsz] at KS h0
    have HNV : Hid (∀ v ∈ mdNew l f sz, VIn v) := hidb (fun v hv => mdNew_in hv)
    generalize mdNew l f sz = vs at *
    have HH := hidb h
    have HIN := hidb hf
    have HLL := hidb hL
    have HONE : Hid (∀ (D : Option Addr) (m k : Nat), ∀ u ∈ [Value.int .i64 f, Value.slice D m k], u.oneCell' = true) := hidb (fun D m k u hu => by
      rcases List.mem_cons.1 hu with rfl | hu
      · rfl
      · obtain rfl := List.mem_singleton.1 hu; rfl)
    have HLN := hidb h.len
    clear h ht hR E hL hf hsz hz hl
    --@2
    go_enter Tryz.func46, Tryz.ntmps46
    go_wp2
    (first | go_region_held3 (fun W => (W.cell? ⟨q, 0, none⟩ = some (.pointer tp) ∧ W.cell? ⟨q, 1, none⟩ = some (.slice A n c)) ∧ W.cell? ⟨fb, 0, none⟩ = some (.int .i64 f))
      (first | ((with_reducible refine HX.out _ ?_); (repeat (first | with_reducible exact Below.refl _ _ | with_reducible exact Hid.out (by assumption) | with_reducible apply belF_al | with_reducible apply belF_dr)); done) | (go_keep; done))
      (first | (go_at_call 47; (with_reducible refine (KS.out _ (by (repeat (first | with_reducible exact Below.refl _ _ | with_reducible exact Hid.out (by assumption) | with_reducible apply belF_al | with_reducible apply belF_dr)))).mono ?_); rintro e w2 ⟨rfl, hb2⟩; have HB2 := hidb (belF_tr (belF_dr (Below.refl _ _)) hb2); have hc2 := HX.out w2 HB2.out; clear hb2)) | fail)
    go_wp2
    clear a0 a1 a2 KS
    obtain ⟨⟨a0, a1⟩, a2⟩ := hc2
    have a1f := (HH.out.below HB2.out).fz 1
    have HF2 : Hid (Calls Tryz.prog 48 #[.agg #[.pointer tp, .slice A n c], .int .i64 f] w2.drew fun e w5 => ∃ D k, e = .returned (.agg #[.int .i64 f, .slice D vs.length k]) ∧ ((w5.cell? ⟨q, 0, none⟩ = some (.pointer tp) ∧ w5.cell? ⟨q, 1, none⟩ = some (.slice A n c)) ∧ w5.cell? ⟨fb, 0, none⟩ = some (.int .i64 f)) ∧ (w5.alloc (.cells #[.int .i64 f, .slice D vs.length k] 59)).cell? ⟨q, 1, none⟩ = some (.slice A n c) ∧ Hid (Below w2.heap.size w2 w5 ∧ w5.ownsRow w2.heap.size 34 4 (.slice D vs.length k) vs.length (cellsAll vlcells vs))) := hidb ((KF.out _ (belF_dr HB2.out)).mono fun e w5 ⟨D, k, h1, h2, h3⟩ => by
      have hb := belF_tr (belF_dr (Below.refl _ _)) h3
      exact ⟨D, k, h1, HX.out w5 (belF_tr HB2.out hb), (HX.out _ (belF_al (belF_tr HB2.out hb) _)).1.2, hidb ⟨hb, h2⟩⟩)
    have HPUSH : Hid (∀ (D : Option Addr) (k : Nat) (w5 w6 : World) (A6 : Option Addr) (c6 : Nat), Below w2.heap.size w2 w5 ∧ w5.ownsRow w2.heap.size 34 4 (.slice D vs.length k) vs.length (cellsAll vlcells vs) → w6.ownsRow w.heap.size 59 2 (.slice A6 (n + 1) c6) (n + 1) (cellsAll afcells us ++ [.int .i64 f, .slice D vs.length k]) → (w5.alloc (.cells #[.int .i64 f, .slice D vs.length k] 59)).grownBy w6 (Value.slice A n c).ownBlock → (w6.cell? ⟨q, 1, none⟩ = some (.slice A n c) ∧ w6.frozen? ⟨q, 1, none⟩ = false) ∧ Hid (ChgTo w W q L (L ++ [(f, vs)], 0) (.returned (.tuple #[])) (w6.setCell ⟨q, 1, none⟩ (.slice A6 (n + 1) c6)))) := hidb (fun D k w5 w6 A6 c6 ⟨hb, ho5⟩ ho6 hg6 => by
      have h2 := HH.out.below HB2.out
      have h6 := (h2.below hb).below (belF_al (Below.refl _ _) (.cells #[.int .i64 f, .slice D vs.length k] 59))
      obtain ⟨p1, p2⟩ := h6.push h2.own.bel.size (ho5.alloc _) (fun y hy g hg => ((h2.own.fns y hy).1.lt g hg).2) HIN.out HNV.out ho6 hg6 L HLL.out W
      exact ⟨p1, hidb p2⟩)
    have HOWN : Hid (∀ (D : Option Addr) (k : Nat) (w5 : World), Below w2.heap.size w2 w5 → (w5.alloc (.cells #[.int .i64 f, .slice D vs.length k] 59)).ownsRow w.heap.size 59 2 (.slice A n c) n (cellsAll afcells us) ∧ w.heap.size ≤ (w5.alloc (.cells #[.int .i64 f, .slice D vs.length k] 59)).heap.size) := hidb (fun D k w5 hb => by
      have h6 := ((HH.out.below HB2.out).below hb).below (belF_al (Below.refl _ _) (.cells #[.int .i64 f, .slice D vs.length k] 59))
      have := h6.own.own
      rw [HLN.out] at this
      exact ⟨this, h6.own.bel.size⟩)
    go_region_law (first
      | (go_simp; go_at_call 48; (with_reducible refine HF2.out.mono ?_); rintro e w5 ⟨D, k, rfl, ⟨⟨b0, b1⟩, b2⟩, b3, HB5⟩)
      | (refine step_append_rowN rfl (.tmp 16) (.tmp 22) 23 rfl w.heap.size 59 i1 (.agg #[.int .i64 0, .slice none 0 0]) 2 32 Tryz.underlying23 hi1 hy0 hy1 hy2 rfl (by decide) _ n (cellsAll afcells us) rfl (by exact (HOWN.out D k w5 HB5.out.1).1) (by exact (HOWN.out D k w5 HB5.out.1).2) (some ⟨w5.heap.size, 0, none⟩) 1 1 [.int .i64 f, .slice D vs.length k] rfl rfl (fun h => by cases h) (cells_new w5 [.int .i64 f, .slice D vs.length k] _) (HONE.out D _ k) (by unfold maxLen; omega) (by omega) ?_; intro A6 c6 w6 ho6 hg6; obtain ⟨⟨d1, d2⟩, HT6⟩ := HPUSH.out D k w5 w6 A6 c6 HB5.out ho6 hg6; clear ho6 hg6))
    all_goals first
      | (exact bodyPost_end (v := .tuple #[]) (by simp [results, Tryz.results46, go_sem]) rfl HT6.out)
      | (go_wp2; exact bodyPost_end (v := .tuple #[]) (by simp [results, Tryz.results46, go_sem]) rfl HT6.out)
end
end Go.Proofs.YtdcnpaodcjfdbaaGreatDoor

/- Layer 19 (model): askScalars, operates; what Write's change does; what Get and Load answer. -/
namespace Go.Proofs.YtdcnpaodcjfdbaaGreatDoor
open Go.RowKit
set_option linter.unusedVariables false

/-- Pointers to values of these kinds. -/
def PtrsAt (W : World) (b : Nat) (ks : List Nat) : Prop := ∀ (j k : Nat), ks[j]? = some k → ∃ pb po : Nat, W.cell? ⟨b, j, none⟩ = some (.pointer (some ⟨pb, po, none⟩)) ∧ W.cell? ⟨pb, po, none⟩ = some (.int .u8 (k : Int))
/-- What askScalars comes to. -/
def AskScTo (b : Bool) (e : Ending) : Prop := if b = true then e = .returned (.tuple #[]) else e = .panicked [{ v := .iface (thrT 5) (.agg #[]), recovered := false }]
theorem c_askSc {W : World} {b m : Nat} {ks : List Nat} (h : PtrsAt W b ks) (hm : ks.length = m) (hm9 : m ≤ 1000) (cp : Nat) :
    Calls Tryz.prog 63 #[.slice (some ⟨b, 0, none⟩) m cp] W fun e w' => AskScTo (ks.all fun k => decide (k = 1)) e ∧ W = w' := by
  have HP := hidb h
  clear h
  go_enter Tryz.func63, Tryz.ntmps63
  go_wp2
  go_loopw [6, 3] (fun v6 _ wr => ∃ j : Nat, j ≤ m ∧ v6 = .int .i64 j ∧ Hid (∀ i k, i < j → ks[i]? = some k → k = 1) ∧ W = wr) (fun v6 _ _ => (m - intOf v6).toNat)
  case atStart => exact ⟨0, by omega, rfl, hidb (fun i k h => absurd h (Nat.not_lt_zero _)), rfl⟩
  case round =>
    obtain ⟨j, hj, rfl, HJ, rfl⟩ := hrel
    by_cases hlt : j < m
    · have hk := List.getElem?_eq_getElem (l := ks) (i := j) (by omega)
      obtain ⟨k, hk⟩ : ∃ k, ks[j]? = some k := ⟨_, hk⟩
      obtain ⟨pb, po, q0, q1⟩ := HP.out j k hk
      by_cases h1 : k = 1
      · have HN : Hid (∀ i k, i < j + 1 → ks[i]? = some k → k = 1) := hidb (fun i k' hi hk' => by
          by_cases e : i = j
          · subst e; rw [hk] at hk'; rw [← Option.some.inj hk']; exact h1
          · exact HJ.out i k' (by omega) hk')
        have e1 : ((k : Int) != 1) = false := by simp; omega
        clear hk h1
        --@1
        go_wp2
        go_roundw
        case rel => exact ⟨j + 1, by omega, by go_num, HN, by first | rfl | trivial⟩
        case measure => simp [intOf]; omega
      · have HF : Hid (¬ (ks.all fun k => decide (k = 1)) = true) := hidb (fun h => h1 (by simpa using List.all_eq_true.1 h k (List.mem_of_getElem? hk)))
        have e1 : ((k : Int) != 1) = true := by simp; omega
        clear hk h1
        --@2
        go_wp2
        exact ⟨rfl, by unfold AskScTo; rw [if_neg HF.out]; rfl, rfl⟩
    · have HF : Hid ((ks.all fun k => decide (k = 1)) = true) := hidb (List.all_eq_true.2 fun k hk => by
        obtain ⟨i, hi⟩ := List.getElem?_of_mem hk
        exact decide_eq_true (HJ.out i k (by have := (List.getElem?_eq_some_iff.1 hi).1; omega) hi))
      --@3
      go_wp2
      exact bodyPost_end (v := .tuple #[]) (by simp [results, Tryz.results63, go_sem]) rfl ⟨by unfold AskScTo; rw [if_pos HF.out], rfl⟩
theorem vMay_one {v : VlV} (h : vMay v = true) (hk : v.kind = 1) : v.depth = 0 ∧ v.slot = 0 := by
  unfold vMay at h
  rw [Bool.and_eq_true, if_pos (by omega), decide_eq_true_iff, decide_eq_true_iff] at h
  exact h.2
theorem one_form {v : VlV} (h : vMay v = true) (hk : v.kind = 1) (b : Nat) : (⟨v.kind, b, v.depth, v.slot⟩ : VlV) = ⟨1, b, 0, 0⟩ := by
  obtain ⟨h1, h2⟩ := vMay_one h hk
  rw [hk, h1, h2]
theorem mdRefers_err {l : Fns} {L : Afs} {d i : Int} (hR : mdRight l L = true) : (mdRefers l L d i).2 = 0 ∨ ((mdRefers l L d i).2 ≠ 0 ∧ ErrOf (mdRefers l L d i).2) := by
  cases hh : mdHas L d i with
  | false =>
    have G : mdGet l L d i = (vl0, 2) := by unfold mdGet; rw [if_neg (by rw [hR]; simp), if_pos hh]
    have E : mdRefers l L d i = (vl0, 2) := by unfold mdRefers; rw [G]; rfl
    rw [E]; exact Or.inr ⟨by simp, by unfold ErrOf; simp⟩
  | true =>
    obtain ⟨v, hv⟩ : ∃ v, (afAt L d.toNat).getD i.toNat vl0 = v := ⟨_, rfl⟩
    have G : mdGet l L d i = (v, 0) := by unfold mdGet; rw [if_neg (by rw [hR]; simp), if_neg (by rw [hh]; simp), hv]
    have E : mdRefers l L d i = if v.kind = 1 then (vl0, 5) else if v.kind = 0 then (v, 12) else (v, 0) := by unfold mdRefers; rw [G]; rfl
    rw [E]
    by_cases h1 : v.kind = 1
    · rw [if_pos h1]; exact Or.inr ⟨by simp, by unfold ErrOf; simp⟩
    · rw [if_neg h1]
      by_cases h0 : v.kind = 0
      · rw [if_pos h0]; exact Or.inr ⟨by simp, by unfold ErrOf; simp⟩
      · rw [if_neg h0]; exact Or.inl rfl
section
variable {w W : World} {tp : Option Addr} {q : Nat} {A : Option Addr} {n c : Nat} {us : List AfS} {lo hi : Nat} {l : Fns} {L : Afs}
/-- Captured numbers. -/
structure NumIn (W : World) (db ib : Nat) (d i : Int) : Prop where
  d0 : W.cell? ⟨db, 0, none⟩ = some (.int .i64 d)
  i0 : W.cell? ⟨ib, 0, none⟩ = some (.int .i64 i)
  low : db < W.heap.size ∧ ib < W.heap.size
theorem NumIn.below {W W' : World} {db ib : Nat} {d i : Int} (h : NumIn W db ib d i) (hb : Below W.heap.size W W') : NumIn W' db ib d i := by
  obtain ⟨l1, l2⟩ := h.low
  have := hb.size
  exact ⟨(hb.cell (p := ⟨db, 0, none⟩) l1).trans h.d0, (hb.cell (p := ⟨ib, 0, none⟩) l2).trans h.i0, by omega, by omega⟩
set_option maxRecDepth 100000 in
set_option maxHeartbeats 4000000 in
theorem c_write1 (h : ChgAt w W tp q A n c us) (hL : afvals us = L) (hR : mdRight l L = true) (hn : n ≤ 1000000) {db ib xb : Nat} {d i : Int} {x : Nat} (hd : in64 d) (hi64 : in64 i) (hx : x < 18446744073709551616) (hc : NumIn W db ib d i) (hxb : xb < W.heap.size) (hxc : W.cell? ⟨xb, 0, none⟩ = some (.int .u64 (x : Int))) :
    Calls Tryz.prog 62 #[.pointer (some ⟨q, 0, none⟩), .pointer (some ⟨db, 0, none⟩), .pointer (some ⟨ib, 0, none⟩), .pointer (some ⟨xb, 0, none⟩)] W (ChgTo w W q L (mdWrite l L d i x)) := by
  have HX : Hid (∀ W', Below W.heap.size W W' → (W'.cell? ⟨q, 0, none⟩ = some (.pointer tp) ∧ W'.cell? ⟨q, 1, none⟩ = some (.slice A n c)) ∧ W'.cell? ⟨db, 0, none⟩ = some (.int .i64 d) ∧ W'.cell? ⟨ib, 0, none⟩ = some (.int .i64 i) ∧ W'.cell? ⟨xb, 0, none⟩ = some (.int .u64 (x : Int))) := hidb (fun W' hb => by
    have h1 := h.below hb
    have h2 := hc.below hb
    exact ⟨⟨h1.c0, h1.c1⟩, h2.d0, h2.i0, (hb.cell (p := ⟨xb, 0, none⟩) hxb).trans hxc⟩)
  have PT : Hid (∀ W' r, Below W.heap.size W W' → ErrOf r → ChgTo w W q L (L, r) (.panicked [{ v := .iface (thrT r) (.agg #[]), recovered := false }]) W') := hidb (fun W' r hb he => by
    have h0 : r ≠ 0 := by unfold ErrOf at he; omega
    unfold ChgTo
    rw [if_neg h0]
    exact ⟨⟨rfl, hb⟩, rfl, he⟩)
  obtain ⟨⟨a0, a1⟩, a2, a3, a4⟩ := HX.out W (Below.refl _ _)
  subst hL
  have CT := fun W' (hb : Below W.heap.size W W') => c_rtarget (c := c) (tp := tp) (l := l) (h.below hb).row hn hR d i hd hi64
  rcases mdRefers_err (d := d) (i := i) hR with h0 | ⟨h0, he⟩
  · obtain ⟨v, hv⟩ : ∃ v, mdRefers l (afvals us) d i = (v, 0) := ⟨_, Prod.ext rfl h0⟩
    obtain ⟨g1, g2, g3⟩ := mdRefers_ok hv
    have CTY : Hid (∀ W', Below W.heap.size W W' → Calls Tryz.prog 61 #[.agg #[.pointer tp, .slice A n c], .int .i64 d, .int .i64 i] W' fun e w' => ∃ p, e = .returned (.pointer (some p)) ∧ SlotAt us v.depth v.slot p ∧ Below W'.heap.size W' w') := hidb (fun W' hb => by
      refine (CT W' hb).mono fun e w' hh => ?_
      rw [hv, if_pos rfl] at hh
      exact hh)
    obtain ⟨u, hu⟩ : ∃ u, (afAt (afvals us) v.depth.toNat).getD v.slot.toNat vl0 = u := ⟨_, rfl⟩
    have E : mdWrite l (afvals us) d i x = if u.kind ≠ 1 then (afvals us, 5) else (mdWith (afvals us) v.depth.toNat v.slot.toNat ⟨1, x, 0, 0⟩, 0) := by
      unfold mdWrite; rw [hv, if_neg (by simp)]; simp only; rw [hu]
    rw [E]
    have hm := (mdFits_kind (mdAt_fits g1 g3)).1
    rw [hu] at hm
    have HH := hidb h
    have HU := hidb hu
    have HAS : Hid (∀ (W' : World) (p : Addr), Below W.heap.size W W' → SlotAt us v.depth v.slot p → Calls Tryz.prog 63 #[.slice (some ⟨W'.heap.size, 0, none⟩) 1 1] (W'.alloc (.cells #[.pointer (some p)] 102)) fun e w' => (if (u.kind = 1) then e = .returned (.tuple #[]) else e = .panicked [{ v := .iface (thrT 5) (.agg #[]), recovered := false }]) ∧ (W'.alloc (.cells #[.pointer (some p)] 102)) = w') := hidb (fun W' p hb hp => by
      obtain ⟨b, o, v', e, hbl, hv', -, c0, -⟩ := hp.cells (h.below hb).row
      obtain rfl : u = v' := hu.symm.trans hv'
      have hpt : PtrsAt (W'.alloc (.cells #[.pointer (some p)] 102)) W'.heap.size [u.kind] := fun j k hk => by
        match j, hk with
        | 0, hk =>
          obtain rfl : u.kind = k := by simpa using hk
          exact ⟨b, o, by rw [e]; simp, by rw [World.cell?_alloc_lt _ _ _ hbl]; exact c0⟩
        | j + 1, hk => simp at hk
      refine (c_askSc hpt rfl (by simp) 1).mono fun e w' ⟨h1, h2⟩ => ⟨?_, h2⟩
      unfold AskScTo at h1
      by_cases hk : u.kind = 1
      · rw [if_pos hk]; rw [if_pos (by simp [hk])] at h1; exact h1
      · rw [if_neg hk]; rw [if_neg (by simp [hk])] at h1; exact h1)
    clear h hc hv g1 g2 g3 E h0 hu CT hR hxb hxc
    by_cases hk : u.kind = 1
    · rw [if_neg (fun c => c hk)]
      have HST : Hid (∀ W' p, Below W.heap.size W W' → SlotAt us v.depth v.slot p → ∃ g o, p = ⟨g, o, none⟩ ∧ ((W'.cell? ⟨g, o + 1, none⟩).isSome = true) ∧ W'.frozen? ⟨g, o + 1, none⟩ = false ∧ ChgTo w W q (afvals us) (mdWith (afvals us) v.depth.toNat v.slot.toNat ⟨1, x, 0, 0⟩, 0) (.returned (.tuple #[])) (W'.setCell ⟨g, o + 1, none⟩ (.int .u64 x))) := hidb (fun W' p hb hp => by
        obtain ⟨g, o, e, k1, k2, k3⟩ := (HH.out.below hb).setB hp u HU.out x hx (afvals us) rfl
        rw [one_form hm hk] at k3
        exact ⟨g, o, e, k1, k2, k3⟩)
      have HAY : Hid (∀ (W' : World) (p : Addr), Below W.heap.size W W' → SlotAt us v.depth v.slot p → Calls Tryz.prog 63 #[.slice (some ⟨W'.heap.size, 0, none⟩) 1 1] (W'.alloc (.cells #[.pointer (some p)] 102)) fun e w' => e = .returned (.tuple #[]) ∧ (W'.alloc (.cells #[.pointer (some p)] 102)) = w') := hidb (fun W' p hb hp => (HAS.out W' p hb hp).mono fun e w' ⟨h1, h2⟩ => ⟨by rw [if_pos hk] at h1; exact h1, h2⟩)
      clear HAS hk hm HU HH
      --@4
      go_enter Tryz.func62, Tryz.ntmps62
      go_wp2
      (first | go_region_held3 (fun W => (W.cell? ⟨q, 0, none⟩ = some (.pointer tp) ∧ W.cell? ⟨q, 1, none⟩ = some (.slice A n c)) ∧ W.cell? ⟨db, 0, none⟩ = some (.int .i64 d) ∧ W.cell? ⟨ib, 0, none⟩ = some (.int .i64 i) ∧ W.cell? ⟨xb, 0, none⟩ = some (.int .u64 (x : Int)))
        (first | ((with_reducible refine HX.out _ ?_); (repeat (first | with_reducible exact Below.refl _ _ | with_reducible exact Hid.out (by assumption) | with_reducible apply belF_al | with_reducible apply belF_dr)); done) | (go_keep; done))
        (first | (go_at_call 61; (with_reducible refine (CTY.out _ (by (repeat (first | with_reducible exact Below.refl _ _ | with_reducible exact Hid.out (by assumption) | with_reducible apply belF_al | with_reducible apply belF_dr)))).mono ?_); rintro e w2 ⟨p, rfl, hp, hb2⟩; have HB2 := hidb (belF_tr (belF_dr (Below.refl _ _)) hb2); have hc2 := HX.out w2 HB2.out; have HP := hidb hp; clear hb2 hp)) | fail)
      clear a0 a1 a2 a3 a4 hc2
      have hb3 := belF_al HB2.out (.cells #[.pointer (some p)] 102)
      have hc3 := HX.out _ hb3
      obtain ⟨g, o, rfl, u1, f1, hto⟩ := HST.out _ p hb3 HP.out
      obtain ⟨y1, u1⟩ := Option.isSome_iff_exists.1 u1
      obtain ⟨⟨b0, b1⟩, b2, b3, b4⟩ := hc3
      have HTO := hidb hto
      have ka := HAY.out w2 _ HB2.out HP.out
      clear hto hb3
      go_wp2_with (first | (go_at_call 63; (with_reducible refine ka.mono ?_); rintro e w4 ⟨rfl, rfl⟩))
      exact bodyPost_end (v := .tuple #[]) (by simp [results, Tryz.results62, go_sem]) rfl HTO.out
    · rw [if_pos hk]
      have HAY : Hid (∀ (W' : World) (p : Addr), Below W.heap.size W W' → SlotAt us v.depth v.slot p → Calls Tryz.prog 63 #[.slice (some ⟨W'.heap.size, 0, none⟩) 1 1] (W'.alloc (.cells #[.pointer (some p)] 102)) fun e w' => e = .panicked [{ v := .iface (thrT 5) (.agg #[]), recovered := false }] ∧ (W'.alloc (.cells #[.pointer (some p)] 102)) = w') := hidb (fun W' p hb hp => (HAS.out W' p hb hp).mono fun e w' ⟨h1, h2⟩ => ⟨by rw [if_neg hk] at h1; exact h1, h2⟩)
      clear HAS hk hm HU HH
      --@5
      go_enter Tryz.func62, Tryz.ntmps62
      go_wp2
      (first | go_region_held3 (fun W => (W.cell? ⟨q, 0, none⟩ = some (.pointer tp) ∧ W.cell? ⟨q, 1, none⟩ = some (.slice A n c)) ∧ W.cell? ⟨db, 0, none⟩ = some (.int .i64 d) ∧ W.cell? ⟨ib, 0, none⟩ = some (.int .i64 i) ∧ W.cell? ⟨xb, 0, none⟩ = some (.int .u64 (x : Int)))
        (first | ((with_reducible refine HX.out _ ?_); (repeat (first | with_reducible exact Below.refl _ _ | with_reducible exact Hid.out (by assumption) | with_reducible apply belF_al | with_reducible apply belF_dr)); done) | (go_keep; done))
        (first | (go_at_call 61; (with_reducible refine (CTY.out _ (by (repeat (first | with_reducible exact Below.refl _ _ | with_reducible exact Hid.out (by assumption) | with_reducible apply belF_al | with_reducible apply belF_dr)))).mono ?_); rintro e w2 ⟨p, rfl, hp, hb2⟩; have HB2 := hidb (belF_tr (belF_dr (Below.refl _ _)) hb2); have hc2 := HX.out w2 HB2.out; have HP := hidb hp; clear hb2 hp)) | fail)
      clear a0 a1 a2 a3 a4 hc2
      have ka := HAY.out w2 _ HB2.out HP.out
      go_wp2_with (first | (go_at_call 63; (with_reducible refine ka.mono ?_); rintro e w4 ⟨rfl, rfl⟩))
      exact ⟨rfl, PT.out _ 5 (belF_al HB2.out _) (by unfold ErrOf; simp)⟩
  · obtain ⟨r, hr⟩ : ∃ r, (mdRefers l (afvals us) d i).2 = r := ⟨_, rfl⟩
    have E : mdWrite l (afvals us) d i x = (afvals us, r) := by unfold mdWrite; rw [if_pos h0, hr]
    rw [E]
    rw [hr] at h0 he
    have CTY : Hid (∀ W', Below W.heap.size W W' → Calls Tryz.prog 61 #[.agg #[.pointer tp, .slice A n c], .int .i64 d, .int .i64 i] W' fun e w' => e = .panicked [{ v := .iface (thrT r) (.agg #[]), recovered := false }] ∧ Below W'.heap.size W' w') := hidb (fun W' hb => by
      refine (CT W' hb).mono fun e w' hh => ?_
      rw [hr, if_neg h0] at hh
      exact hh)
    clear h hc E h0 CT hR hxb hxc hr
    --@6
    go_enter Tryz.func62, Tryz.ntmps62
    go_wp2
    go_region_dies
    all_goals (go_at_call 61; (with_reducible refine (CTY.out _ (by (repeat (first | with_reducible exact Below.refl _ _ | with_reducible exact Hid.out (by assumption) | with_reducible apply belF_al | with_reducible apply belF_dr)))).mono ?_); rintro e w2 ⟨rfl, hb2⟩; exact ⟨rfl, PT.out _ r (belF_tr (belF_dr (Below.refl _ _)) hb2) he⟩)
end
end Go.Proofs.YtdcnpaodcjfdbaaGreatDoor

/- Layer 19 (model): what Get and Load answer. -/
namespace Go.Proofs.YtdcnpaodcjfdbaaGreatDoor
open Go.RowKit
set_option linter.unusedVariables false

section
variable {W : World} {tp : Option Addr} {A : Option Addr} {n c : Nat} {zs : List AfS} {l : Fns}
set_option maxRecDepth 100000 in
set_option maxHeartbeats 4000000 in
theorem c_get1 (hs : AfRow W W.heap.size A n zs) (hR : mdRight l (afvals zs) = true) (hn : n ≤ 1000000) {db ib : Nat} {d i : Int} (hd : in64 d) (hi64 : in64 i) (hc : NumIn W db ib d i) :
    Calls Tryz.prog 59 #[.agg #[.pointer tp, .slice A n c], .pointer (some ⟨db, 0, none⟩), .pointer (some ⟨ib, 0, none⟩)] W (AskTo W (mdGet l (afvals zs) d i)) := by
  have hb1 := belF_al (Below.refl W.heap.size W) (.cells #[.pointer tp, .slice A n c] 66)
  have hb0 := belF_al hb1 (.cells #[.int .u8 0, .int .u64 0, .int .i64 0, .int .i64 0] 34)
  have HB := hidb hb0
  have hz1 : (rwB W tp A n c).heap.size = W.heap.size + 1 := by simp
  have HN := new_val (rwB W tp A n c)
  rw [hz1] at HN
  have a0 := (hc.below hb0).d0
  have a1 := (hc.below hb0).i0
  obtain ⟨x0, x1⟩ := (rwB_at W tp A n c).out _ (belF_al (Below.refl _ _) (.cells #[.int .u8 0, .int .u64 0, .int .i64 0, .int .i64 0] 34))
  clear hb0 hb1 hz1
  cases hh : mdHas (afvals zs) d i with
  | false =>
    have E : mdGet l (afvals zs) d i = (vl0, 2) := by unfold mdGet; rw [if_neg (by rw [hR]; simp), if_pos hh]
    rw [E]
    have CS : Hid (∀ W', Below W.heap.size W W' → Calls Tryz.prog 57 #[.agg #[.pointer tp, .slice A n c], .int .i64 d, .int .i64 i] W' (Threw19 2 W')) := hidb (fun W' hb => c_rslot_no (hs.step hb) hn d i hd hi64 hh)
    unfold Threw19 at CS
    have PT : Hid (∀ W', Below W.heap.size W W' → AskTo W (vl0, 2) (.panicked [{ v := .iface (thrT 2) (.agg #[]), recovered := false }]) W') := hidb (fun W' hb => ⟨⟨rfl, hb⟩, rfl, by unfold ErrOf; simp⟩)
    clear hs hR hc E
    --@get11
    go_enter Tryz.func59, Tryz.ntmps59
    go_wp2_with (first | (go_at_call 57; (with_reducible refine (CS.out _ HB.out).mono ?_); rintro e w2 ⟨rfl, hb2⟩))
    exact ⟨rfl, PT.out _ (belF_tr HB.out hb2)⟩
  | true =>
    obtain ⟨v, hv⟩ : ∃ v, (afAt (afvals zs) d.toNat).getD i.toNat vl0 = v := ⟨_, rfl⟩
    have E : mdGet l (afvals zs) d i = (v, 0) := by unfold mdGet; rw [if_neg (by rw [hR]; simp), if_neg (by rw [hh]; simp), hv]
    rw [E]
    have CS : Hid (∀ W', Below W.heap.size W W' → Calls Tryz.prog 57 #[.agg #[.pointer tp, .slice A n c], .int .i64 d, .int .i64 i] W' fun e w' => ∃ p, e = .returned (.pointer (some p)) ∧ SlotAt zs d i p ∧ Below W'.heap.size W' w') := hidb (fun W' hb => c_rslot (hs.step hb) hn d i hd hi64 hh)
    have HS := hidb hs
    have HV := hidb hv
    clear hs hR hc E hv
    --@get12
    go_enter Tryz.func59, Tryz.ntmps59
    go_wp2_with (first | (go_at_call 57; (with_reducible refine (CS.out _ HB.out).mono ?_); rintro e w2 ⟨p, rfl, hp, hb2⟩; have HB2 := hidb (belF_tr HB.out hb2); obtain ⟨b, o, v', rfl, hbl, hv', hin, c0, c1, c2, c3⟩ := hp.cells (HS.out.below HB2.out); obtain rfl : v = v' := HV.out.symm.trans hv'; obtain ⟨⟨r0, r1, r2, r3⟩, f0, f1, f2, f3⟩ := HN.out w2 hb2; clear hb2 hp hv'))
    obtain ⟨vk, vb, vd, vi⟩ := v
    obtain ⟨s0, s1, s2, s3⟩ := four_cellsV w2 (W.heap.size + 1) (.int .u8 (vk : Int)) (.int .u64 (vb : Int)) (.int .i64 vd) (.int .i64 vi) _ _ _ _ r0 r1 r2 r3
    exact bodyPost_ret (v := .agg #[.int .u8 (vk : Int), .int .u64 (vb : Int), .int .i64 vd, .int .i64 vi]) (by simp [results, Tryz.results59, go_sem, s0, s1, s2, s3]) rfl ⟨rfl, bel_set4 HB2.out (by omega) _ _ _ _⟩
set_option maxRecDepth 100000 in
set_option maxHeartbeats 4000000 in
theorem c_load1 (hs : AfRow W W.heap.size A n zs) (hR : mdRight l (afvals zs) = true) (hn : n ≤ 1000000) {db ib : Nat} {d i : Int} (hd : in64 d) (hi64 : in64 i) (hc : NumIn W db ib d i) :
    Calls Tryz.prog 60 #[.agg #[.pointer tp, .slice A n c], .pointer (some ⟨db, 0, none⟩), .pointer (some ⟨ib, 0, none⟩)] W (AskTo W (mdLoad l (afvals zs) d i)) := by
  have hb1 := belF_al (Below.refl W.heap.size W) (.cells #[.pointer tp, .slice A n c] 66)
  have hb0 := belF_al hb1 (.cells #[.int .u8 0, .int .u64 0, .int .i64 0, .int .i64 0] 34)
  have HB := hidb hb0
  have hz1 : (rwB W tp A n c).heap.size = W.heap.size + 1 := by simp
  have HN := new_val (rwB W tp A n c)
  rw [hz1] at HN
  have a0 := (hc.below hb0).d0
  have a1 := (hc.below hb0).i0
  obtain ⟨x0, x1⟩ := (rwB_at W tp A n c).out _ (belF_al (Below.refl _ _) (.cells #[.int .u8 0, .int .u64 0, .int .i64 0, .int .i64 0] 34))
  clear hb0 hb1 hz1
  have CT := fun W' (hb : Below W.heap.size W W') => c_rtarget (c := c) (tp := tp) (l := l) (hs.step hb) hn hR d i hd hi64
  rcases mdRefers_err (d := d) (i := i) hR with h0 | ⟨h0, he⟩
  · obtain ⟨u, hu⟩ : ∃ u, mdRefers l (afvals zs) d i = (u, 0) := ⟨_, Prod.ext rfl h0⟩
    obtain ⟨d', i', hd', hi'⟩ : ∃ d' i', u.depth = d' ∧ u.slot = i' := ⟨_, _, rfl, rfl⟩
    have CS : Hid (∀ W', Below W.heap.size W W' → Calls Tryz.prog 61 #[.agg #[.pointer tp, .slice A n c], .int .i64 d, .int .i64 i] W' fun e w' => ∃ p, e = .returned (.pointer (some p)) ∧ SlotAt zs d' i' p ∧ Below W'.heap.size W' w') := hidb (fun W' hb => by
      refine (CT W' hb).mono fun e w' hh => ?_
      rw [hu, if_pos rfl] at hh
      simp only at hh
      rw [hd', hi'] at hh
      exact hh)
    obtain ⟨v, hv⟩ : ∃ v, (afAt (afvals zs) d'.toNat).getD i'.toNat vl0 = v := ⟨_, rfl⟩
    have E : mdLoad l (afvals zs) d i = (v, 0) := by
      unfold mdLoad; rw [hu, if_neg (by simp)]; simp only; rw [hd', hi', hv]
    rw [E]
    clear CT hu h0 hd' hi'
    have HS := hidb hs
    have HV := hidb hv
    clear hs hR hc E hv
    --@load12
    go_enter Tryz.func60, Tryz.ntmps60
    go_wp2_with (first | (go_at_call 61; (with_reducible refine (CS.out _ HB.out).mono ?_); rintro e w2 ⟨p, rfl, hp, hb2⟩; have HB2 := hidb (belF_tr HB.out hb2); obtain ⟨b, o, v', rfl, hbl, hv', hin, c0, c1, c2, c3⟩ := hp.cells (HS.out.below HB2.out); obtain rfl : v = v' := HV.out.symm.trans hv'; obtain ⟨⟨r0, r1, r2, r3⟩, f0, f1, f2, f3⟩ := HN.out w2 hb2; clear hb2 hp hv'))
    obtain ⟨vk, vb, vd, vi⟩ := v
    obtain ⟨s0, s1, s2, s3⟩ := four_cellsV w2 (W.heap.size + 1) (.int .u8 (vk : Int)) (.int .u64 (vb : Int)) (.int .i64 vd) (.int .i64 vi) _ _ _ _ r0 r1 r2 r3
    exact bodyPost_ret (v := .agg #[.int .u8 (vk : Int), .int .u64 (vb : Int), .int .i64 vd, .int .i64 vi]) (by simp [results, Tryz.results60, go_sem, s0, s1, s2, s3]) rfl ⟨rfl, bel_set4 HB2.out (by omega) _ _ _ _⟩
  · obtain ⟨r, hr⟩ : ∃ r, (mdRefers l (afvals zs) d i).2 = r := ⟨_, rfl⟩
    have E : mdLoad l (afvals zs) d i = (vl0, r) := by unfold mdLoad; rw [if_pos h0, hr]
    rw [E]
    rw [hr] at h0 he
    have CS : Hid (∀ W', Below W.heap.size W W' → Calls Tryz.prog 61 #[.agg #[.pointer tp, .slice A n c], .int .i64 d, .int .i64 i] W' fun e w' => e = .panicked [{ v := .iface (thrT r) (.agg #[]), recovered := false }] ∧ Below W'.heap.size W' w') := hidb (fun W' hb => by
      refine (CT W' hb).mono fun e w' hh => ?_
      rw [hr, if_neg h0] at hh
      exact hh)
    have PT : Hid (∀ W', Below W.heap.size W W' → AskTo W (vl0, r) (.panicked [{ v := .iface (thrT r) (.agg #[]), recovered := false }]) W') := hidb (fun W' hb => by unfold AskTo; rw [if_neg h0]; exact ⟨⟨rfl, hb⟩, rfl, he⟩)
    clear CT hr h0 he
    clear hs hR hc E
    --@load11
    go_enter Tryz.func60, Tryz.ntmps60
    go_wp2_with (first | (go_at_call 61; (with_reducible refine (CS.out _ HB.out).mono ?_); rintro e w2 ⟨rfl, hb2⟩))
    exact ⟨rfl, PT.out _ (belF_tr HB.out hb2)⟩
end
end Go.Proofs.YtdcnpaodcjfdbaaGreatDoor

/- Layer 19 (model): what Calc's change does. -/
namespace Go.Proofs.YtdcnpaodcjfdbaaGreatDoor
open Go.RowKit
set_option linter.unusedVariables false

theorem c_fcalc19 (n a b : Nat) (w : World) (h1 : 1 ≤ n) (h2 : n ≤ 10) (ha : a < 18446744073709551616) (hb : b < 18446744073709551616) :
    Calls Tryz.prog 66 #[.int .u8 (n : Int), .int .u64 (a : Int), .int .u64 (b : Int)] w (CalcOf n a b w) := by
  have : n = 1 ∨ n = 2 ∨ n = 3 ∨ n = 4 ∨ n = 5 ∨ n = 6 ∨ n = 7 ∨ n = 8 ∨ n = 9 ∨ n = 10 := by omega
  rcases this with rfl | rfl | rfl | rfl | rfl | rfl | rfl | rfl | rfl | rfl
  · exact float_calc1 a b w ha hb
  · exact float_calc2 a b w ha hb
  · exact float_calc3 a b w ha hb
  · exact float_calc4 a b w ha hb
  · exact float_calc5 a b w ha hb
  · exact float_calc6 a b w ha hb
  · exact float_calc7 a b w ha hb
  · exact float_calc8 a b w ha hb
  · exact float_calc9 a b w ha hb
  · exact float_calc10 a b w ha hb
theorem c_operates (op : Nat) (w : World) (b : Bool) (hb : decide (1 ≤ op ∧ op ≤ 10) = b) : Calls Tryz.prog 65 #[.int .u8 (op : Int)] w fun e w' => e = .returned (.bool b) ∧ Below w.heap.size w w' := by
  cases b with
  | true =>
    have h := of_decide_eq_true hb
    have cf : Calls Tryz.prog 66 #[.int .u8 (op : Int), .int .u64 0, .int .u64 0] w fun e w' => ∃ x : Int, e = .returned (.tuple #[.int .u64 x, .int .i64 0]) ∧ Below w.heap.size w w' := (c_fcalc19 op 0 0 w h.1 h.2 (by omega) (by omega)).mono fun e w' ⟨h1, q, h2⟩ => ⟨_, h1, by rw [h2]; exact belowN (Below.refl _ _) _⟩
    clear hb h
    --@1
    go_enter Tryz.func65, Tryz.ntmps65
    go_wp2_with (first | (go_at_call 66; (with_reducible refine cf.mono ?_); rintro e w1 ⟨x, rfl, hb1⟩))
    go_ret
    exact ⟨rfl, hb1⟩
  | false =>
    have h := of_decide_eq_false hb
    have cf : Calls Tryz.prog 66 #[.int .u8 (op : Int), .int .u64 0, .int .u64 0] w fun e w' => e = .returned (.tuple #[.int .u64 0, .int .i64 1]) ∧ w = w' := float_calc_no op 0 0 w (by omega)
    clear hb h
    --@2
    go_enter Tryz.func65, Tryz.ntmps65
    go_wp2_with (first | (go_at_call 66; (with_reducible refine cf.mono ?_); rintro e w1 ⟨rfl, rfl⟩))
    go_ret
    exact ⟨rfl, Below.refl _ _⟩
/-- What Calc's change captures. -/
structure CalcIn (W : World) (sb ob db : Nat) (A3 : Option Addr) (n3 c3 : Nat) (op : Nat) (d : Int) (ks : List Int) : Prop where
  s0 : W.cell? ⟨sb, 0, none⟩ = some (.slice A3 n3 c3)
  o0 : W.cell? ⟨ob, 0, none⟩ = some (.int .u8 (op : Int))
  d0 : W.cell? ⟨db, 0, none⟩ = some (.int .i64 d)
  row : Sl W W.heap.size A3 n3 (ks.map fun k => Value.int .i64 k)
  low : sb < W.heap.size ∧ ob < W.heap.size ∧ db < W.heap.size
theorem CalcIn.below {W W' : World} {sb ob db : Nat} {A3 : Option Addr} {n3 c3 : Nat} {op : Nat} {d : Int} {ks : List Int} (h : CalcIn W sb ob db A3 n3 c3 op d ks) (hb : Below W.heap.size W W') : CalcIn W' sb ob db A3 n3 c3 op d ks := by
  obtain ⟨l1, l2, l3⟩ := h.low
  have := hb.size
  exact ⟨(hb.cell (p := ⟨sb, 0, none⟩) l1).trans h.s0, (hb.cell (p := ⟨ob, 0, none⟩) l2).trans h.o0, (hb.cell (p := ⟨db, 0, none⟩) l3).trans h.d0, (h.row.below hb).more hb.size, by omega, by omega, by omega⟩
section
variable {w W : World} {tp : Option Addr} {q : Nat} {A : Option Addr} {n c : Nat} {us : List AfS} {lo hi : Nat} {l : Fns} {L : Afs}
set_option maxRecDepth 100000 in
set_option maxHeartbeats 8000000 in
theorem c_calc1 (h : ChgAt w W tp q A n c us) (hL : afvals us = L) (hR : mdRight l L = true) (hn : n ≤ 1000000) {sb ob db : Nat} {A3 : Option Addr} {n3 c3 : Nat} {op : Nat} {d : Int} {ks : List Int} (hop : op < 256) (hd : in64 d) (hks : ∀ k ∈ ks, in64 k) (hn3 : n3 ≤ 9223372036854775806) (hc : CalcIn W sb ob db A3 n3 c3 op d ks) :
    Calls Tryz.prog 64 #[.pointer (some ⟨q, 0, none⟩), .pointer (some ⟨sb, 0, none⟩), .pointer (some ⟨ob, 0, none⟩), .pointer (some ⟨db, 0, none⟩)] W (ChgTo w W q L (mdCalc l L op d ks)) := by
  have PT : Hid (∀ W' r, Below W.heap.size W W' → ErrOf r → ChgTo w W q L (L, r) (.panicked [{ v := .iface (thrT r) (.agg #[]), recovered := false }]) W') := hidb (fun W' r hb he => by
    have h0 : r ≠ 0 := by unfold ErrOf at he; omega
    unfold ChgTo
    rw [if_neg h0]
    exact ⟨⟨rfl, hb⟩, rfl, he⟩)
  have hlk : ks.length = n3 := by have := hc.row.1; simpa using this
  subst hL
  have z0 := hc.s0
  have z1 := hc.o0
  by_cases h3 : n3 = 3
  · subst h3
    obtain ⟨k0, k1, k2, rfl⟩ : ∃ k0 k1 k2, ks = [k0, k1, k2] := by
      match ks, hlk with
      | [k0, k1, k2], _ => exact ⟨k0, k1, k2, rfl⟩
    cases hop2 : decide (1 ≤ op ∧ op ≤ 10) with
    | false =>
      have hbad := of_decide_eq_false hop2
      have E : mdCalc l (afvals us) op d [k0, k1, k2] = (afvals us, 1) := by unfold mdCalc; rw [if_neg (by rw [hR]; simp), if_pos (by simp; omega)]
      rw [E]
      have ko := fun W' => c_operates op W' _ hop2
      clear h hc hR hks hlk E hop2 hbad
      --@3
      go_enter Tryz.func64, Tryz.ntmps64
      go_wp2_with (first | (go_at_call 65; (with_reducible refine (ko _).mono ?_); rintro e w2 ⟨rfl, hb2⟩))
      exact ⟨rfl, PT.out _ 1 hb2 (by unfold ErrOf; simp)⟩
    | true =>
      have hgood := of_decide_eq_true hop2
      have ko' := fun W' => c_operates op W' _ hop2
      clear hop2
      obtain ⟨kb, ko, hA3, hkb⟩ : ∃ kb ko, A3 = some ⟨kb, ko, none⟩ ∧ kb < W.heap.size ∧ W.cell? ⟨kb, ko, none⟩ = some (.int .i64 k0) ∧ W.cell? ⟨kb, ko + 1, none⟩ = some (.int .i64 k1) ∧ W.cell? ⟨kb, ko + 2, none⟩ = some (.int .i64 k2) := by
        obtain ⟨_, hr⟩ := hc.row
        obtain ⟨b, off, e, hb, hcell⟩ := hr (by omega)
        exact ⟨b, off, e, hb, (hcell 0 (by omega)).trans rfl, (hcell 1 (by omega)).trans rfl, (hcell 2 (by omega)).trans rfl⟩
      obtain ⟨hkb, kc0, kc1, kc2⟩ := hkb
      subst hA3
      have HX : Hid (∀ W', Below W.heap.size W W' → (W'.cell? ⟨q, 0, none⟩ = some (.pointer tp) ∧ W'.cell? ⟨q, 1, none⟩ = some (.slice A n c)) ∧ W'.cell? ⟨sb, 0, none⟩ = some (.slice (some ⟨kb, ko, none⟩) 3 c3) ∧ W'.cell? ⟨ob, 0, none⟩ = some (.int .u8 (op : Int)) ∧ W'.cell? ⟨db, 0, none⟩ = some (.int .i64 d) ∧ W'.cell? ⟨kb, ko, none⟩ = some (.int .i64 k0) ∧ W'.cell? ⟨kb, ko + 1, none⟩ = some (.int .i64 k1) ∧ W'.cell? ⟨kb, ko + 2, none⟩ = some (.int .i64 k2)) := hidb (fun W' hb => by
        have h1 := h.below hb
        have h2 := hc.below hb
        exact ⟨⟨h1.c0, h1.c1⟩, h2.s0, h2.o0, h2.d0, (hb.cell (p := ⟨kb, ko, none⟩) hkb).trans kc0, (hb.cell (p := ⟨kb, ko + 1, none⟩) hkb).trans kc1, (hb.cell (p := ⟨kb, ko + 2, none⟩) hkb).trans kc2⟩)
      have KSN : Hid (∀ W' k, Below W.heap.size W W' → in64 k → mdHas (afvals us) d k = false → Calls Tryz.prog 57 #[.agg #[.pointer tp, .slice A n c], .int .i64 d, .int .i64 k] W' fun e w' => e = .panicked [{ v := .iface (thrT 2) (.agg #[]), recovered := false }] ∧ Below W'.heap.size W' w') := hidb (fun W' k hb hk hh => c_rslot_no (h.below hb).row hn d k hd hk hh)
      have KSY : Hid (∀ W' k, Below W.heap.size W W' → in64 k → mdHas (afvals us) d k = true → Calls Tryz.prog 57 #[.agg #[.pointer tp, .slice A n c], .int .i64 d, .int .i64 k] W' fun e w' => ∃ p, e = .returned (.pointer (some p)) ∧ SlotAt us d k p ∧ Below W'.heap.size W' w') := hidb (fun W' k hb hk hh => c_rslot (h.below hb).row hn d k hd hk hh)
      have hk0 := hks k0 (by simp)
      have hk1 := hks k1 (by simp)
      have hk2 := hks k2 (by simp)
      have E0 : mdCalc l (afvals us) op d [k0, k1, k2] = if ([k0, k1, k2].all fun k => mdHas (afvals us) d k) = false then (afvals us, 2) else if ([k0, k1, k2].all fun k => decide (((afAt (afvals us) d.toNat).getD k.toNat vl0).kind = 1)) = false then (afvals us, 5)
          else (mdWith (afvals us) d.toNat k0.toNat ⟨1, fCalc op ((afAt (afvals us) d.toNat).getD k1.toNat vl0).bits ((afAt (afvals us) d.toNat).getD k2.toNat vl0).bits, 0, 0⟩, 0) := by
        unfold mdCalc; rw [if_neg (by rw [hR]; simp), if_neg (by simp; omega)]; rfl
      obtain ⟨⟨a0, a1⟩, a2, a3, a4, a5, a6, a7⟩ := HX.out W (Below.refl _ _)
      cases m0 : mdHas (afvals us) d k0 with
      | false =>
        rw [if_pos (by simp [m0])] at E0
        rw [E0]
        have KN := hidb (fun W' hb => KSN.out W' k0 hb hk0 m0)
        clear h hc hR hks hlk E0 KSN KSY m0 kc0 kc1 kc2 hk0 hk1 hk2
        --@4
        go_enter Tryz.func64, Tryz.ntmps64
        go_wp2_with (first | (go_at_call 65; (with_reducible refine (ko' _).mono ?_); rintro e w2 ⟨rfl, hb2⟩; have HB2 := hidb hb2; have hc2 := HX.out w2 hb2; have HX2 : Hid (∀ W', Below w2.heap.size w2 W' → (W'.cell? ⟨q, 0, none⟩ = some (.pointer tp) ∧ W'.cell? ⟨q, 1, none⟩ = some (.slice A n c)) ∧ W'.cell? ⟨sb, 0, none⟩ = some (.slice (some ⟨kb, ko, none⟩) 3 c3) ∧ W'.cell? ⟨ob, 0, none⟩ = some (.int .u8 (op : Int)) ∧ W'.cell? ⟨db, 0, none⟩ = some (.int .i64 d) ∧ W'.cell? ⟨kb, ko, none⟩ = some (.int .i64 k0) ∧ W'.cell? ⟨kb, ko + 1, none⟩ = some (.int .i64 k1) ∧ W'.cell? ⟨kb, ko + 2, none⟩ = some (.int .i64 k2)) := hidb (fun W' hb => HX.out W' (belF_tr HB2.out hb)); clear hb2))
        clear a0 a1 a2 a3 a4 a5 a6 a7
        refine wp_region_held_drew (S := fun W => (W.cell? ⟨q, 0, none⟩ = some (.pointer tp) ∧ W.cell? ⟨q, 1, none⟩ = some (.slice A n c)) ∧ W.cell? ⟨sb, 0, none⟩ = some (.slice (some ⟨kb, ko, none⟩) 3 c3) ∧ W.cell? ⟨ob, 0, none⟩ = some (.int .u8 (op : Int)) ∧ W.cell? ⟨db, 0, none⟩ = some (.int .i64 d) ∧ W.cell? ⟨kb, ko, none⟩ = some (.int .i64 k0) ∧ W.cell? ⟨kb, ko + 1, none⟩ = some (.int .i64 k1) ∧ W.cell? ⟨kb, ko + 2, none⟩ = some (.int .i64 k2)) (by kernel_rfl) ?_ (fun hHeld => ?_)
        · (first | ((with_reducible refine HX2.out _ ?_); (repeat (first | with_reducible exact Below.refl _ _ | with_reducible exact Hid.out (by assumption) | with_reducible apply belF_al | with_reducible apply belF_dr)); done) | (go_keep; done))
        refine' wpAnyH_take (i := 0) ?_ (by kernel_rfl) (by kernel_rfl) (by kernel_rfl) ?_ ?_ (by assumption) ?_
        rotate_left 2
        · rfl
        · exact fun _ _ _ h => h
        · refine Or.inl ⟨by rfl, ?_⟩
          intro w hSw
          try dsimp only at hSw
          go_simp
          try with_reducible rfl
        simp only [Act.put, List.setIfInBounds_toArray]
        refine' wpAnyH_take (i := 1) ?_ (by kernel_rfl) (by kernel_rfl) (by kernel_rfl) ?_ ?_ (by assumption) ?_
        rotate_left 2
        · rfl
        · exact fun _ _ _ h => h
        · refine Or.inl ⟨by rfl, ?_⟩
          intro w hSw
          try dsimp only at hSw
          go_simp
          try with_reducible rfl
        simp only [Act.put]
        refine' wpAnyH_take (i := 2) ?_ (by kernel_rfl) (by kernel_rfl) (by kernel_rfl) ?_ ?_ (by assumption) ?_
        rotate_left 2
        · rfl
        · exact fun _ _ _ h => h
        · refine Or.inl ⟨by rfl, ?_⟩
          intro w hSw
          try dsimp only at hSw
          go_simp
          try with_reducible rfl
        simp only [Act.put]
        refine' wpAnyH_take (i := 3) ?_ (by kernel_rfl) (by kernel_rfl) (by kernel_rfl) ?_ ?_ (by assumption) ?_
        rotate_left 2
        · rfl
        · exact fun _ _ _ h => h
        · refine Or.inl ⟨by rfl, ?_⟩
          intro w hSw
          try dsimp only at hSw
          go_simp
          try with_reducible rfl
        simp only [Act.put]
        refine' wpAnyH_take (i := 4) ?_ (by kernel_rfl) (by kernel_rfl) (by kernel_rfl) ?_ ?_ (by assumption) ?_
        rotate_left 2
        · rfl
        · exact fun _ _ _ h => h
        · refine Or.inl ⟨by rfl, ?_⟩
          intro w hSw
          try dsimp only at hSw
          go_simp
          try with_reducible rfl
        simp only [Act.put]
        refine' wpAnyH_take (i := 5) ?_ (by kernel_rfl) (by kernel_rfl) (by kernel_rfl) ?_ ?_ (by assumption) ?_
        rotate_left 2
        · rfl
        · exact fun _ _ _ h => h
        · refine Or.inl ⟨by rfl, ?_⟩
          intro w hSw
          try dsimp only at hSw
          go_simp
          try with_reducible rfl
        simp only [Act.put]
        refine' wpAnyH_take (i := 6) ?_ (by kernel_rfl) (by kernel_rfl) (by kernel_rfl) ?_ ?_ (by assumption) ?_
        rotate_left 2
        · rfl
        · exact fun _ _ _ h => h
        · refine Or.inl ⟨by rfl, ?_⟩
          intro w hSw
          try dsimp only at hSw
          go_simp
          try with_reducible rfl
        simp only [Act.put]
        refine' wpAnyH_take (i := 8) ?_ (by kernel_rfl) (by kernel_rfl) (by kernel_rfl) ?_ ?_ (by assumption) ?_
        rotate_left 2
        · rfl
        · exact fun _ _ _ h => h
        · refine Or.inl ⟨by rfl, ?_⟩
          intro w hSw
          try dsimp only at hSw
          go_simp
          try with_reducible rfl
        simp only [Act.put]
        refine' wpAnyH_take (i := 9) ?_ (by kernel_rfl) (by kernel_rfl) (by kernel_rfl) ?_ ?_ (by assumption) ?_
        rotate_left 2
        · rfl
        · exact fun _ _ _ h => h
        · refine Or.inl ⟨by rfl, ?_⟩
          intro w hSw
          try dsimp only at hSw
          go_simp
          try with_reducible rfl
        simp only [Act.put]
        refine' wpAnyH_take (i := 10) ?_ (by kernel_rfl) (by kernel_rfl) (by kernel_rfl) ?_ ?_ (by assumption) ?_
        rotate_left 2
        · rfl
        · exact fun _ _ _ h => h
        · refine Or.inl ⟨by rfl, ?_⟩
          intro w hSw
          try dsimp only at hSw
          go_simp
          try with_reducible rfl
        simp only [Act.put]
        refine' wpAnyH_take (i := 11) ?_ (by kernel_rfl) (by kernel_rfl) (by kernel_rfl) ?_ ?_ (by assumption) ?_
        rotate_left 2
        · rfl
        · exact fun _ _ _ h => h
        · refine Or.inl ⟨by rfl, ?_⟩
          intro w hSw
          try dsimp only at hSw
          go_simp
          try with_reducible rfl
        simp only [Act.put]
        refine' wpAnyH_take (i := 12) ?_ (by kernel_rfl) (by kernel_rfl) (by kernel_rfl) ?_ ?_ (by assumption) ?_
        rotate_left 2
        · rfl
        · exact fun _ _ _ h => h
        · refine Or.inl ⟨by rfl, ?_⟩
          intro w hSw
          try dsimp only at hSw
          go_simp
          try with_reducible rfl
        simp only [Act.put]
        refine' wpAnyH_take (i := 13) ?_ (by kernel_rfl) (by kernel_rfl) (by kernel_rfl) ?_ ?_ (by assumption) ?_
        rotate_left 2
        · rfl
        · exact fun _ _ _ h => h
        · refine Or.inl ⟨by rfl, ?_⟩
          intro w hSw
          try dsimp only at hSw
          go_simp
          try with_reducible rfl
        simp only [Act.put]
        refine' wpAnyH_take (i := 14) ?_ (by kernel_rfl) (by kernel_rfl) (by kernel_rfl) ?_ ?_ (by assumption) ?_
        rotate_left 2
        · rfl
        · exact fun _ _ _ h => h
        · refine Or.inl ⟨by rfl, ?_⟩
          intro w hSw
          try dsimp only at hSw
          go_simp
          try with_reducible rfl
        simp only [Act.put]
        refine' wpAnyH_take (i := 16) ?_ (by kernel_rfl) (by kernel_rfl) (by kernel_rfl) ?_ ?_ (by assumption) ?_
        rotate_left 2
        · rfl
        · exact fun _ _ _ h => h
        · refine Or.inl ⟨by rfl, ?_⟩
          intro w hSw
          try dsimp only at hSw
          go_simp
          try with_reducible rfl
        simp only [Act.put]
        refine' wpAnyH_take (i := 17) ?_ (by kernel_rfl) (by kernel_rfl) (by kernel_rfl) ?_ ?_ (by assumption) ?_
        rotate_left 2
        · rfl
        · exact fun _ _ _ h => h
        · refine Or.inl ⟨by rfl, ?_⟩
          intro w hSw
          try dsimp only at hSw
          go_simp
          try with_reducible rfl
        simp only [Act.put]
        refine' wpAnyH_take (i := 18) ?_ (by kernel_rfl) (by kernel_rfl) (by kernel_rfl) ?_ ?_ (by assumption) ?_
        rotate_left 2
        · rfl
        · exact fun _ _ _ h => h
        · refine Or.inl ⟨by rfl, ?_⟩
          intro w hSw
          try dsimp only at hSw
          go_simp
          try with_reducible rfl
        simp only [Act.put]
        refine' wpAnyH_take (i := 19) ?_ (by kernel_rfl) (by kernel_rfl) (by kernel_rfl) ?_ ?_ (by assumption) ?_
        rotate_left 2
        · rfl
        · exact fun _ _ _ h => h
        · refine Or.inl ⟨by rfl, ?_⟩
          intro w hSw
          try dsimp only at hSw
          go_simp
          try with_reducible rfl
        simp only [Act.put]
        refine' wpAnyH_take (i := 20) ?_ (by kernel_rfl) (by kernel_rfl) (by kernel_rfl) ?_ ?_ (by assumption) ?_
        rotate_left 2
        · rfl
        · exact fun _ _ _ h => h
        · refine Or.inl ⟨by rfl, ?_⟩
          intro w hSw
          try dsimp only at hSw
          go_simp
          try with_reducible rfl
        simp only [Act.put]
        refine' wpAnyH_take (i := 21) ?_ (by kernel_rfl) (by kernel_rfl) (by kernel_rfl) ?_ ?_ (by assumption) ?_
        rotate_left 2
        · rfl
        · exact fun _ _ _ h => h
        · refine Or.inl ⟨by rfl, ?_⟩
          intro w hSw
          try dsimp only at hSw
          go_simp
          try with_reducible rfl
        simp only [Act.put]
        refine' wpAnyH_take (i := 22) ?_ (by kernel_rfl) (by kernel_rfl) (by kernel_rfl) ?_ ?_ (by assumption) ?_
        rotate_left 2
        · rfl
        · exact fun _ _ _ h => h
        · refine Or.inl ⟨by rfl, ?_⟩
          intro w hSw
          try dsimp only at hSw
          go_simp
          try with_reducible rfl
        simp only [Act.put]
        refine wpAnyH_ready (rs := [7]) (by kernel_rfl) (by simp) (AllReadyH.cons rfl (fun K hK => ?_) AllReadyH.nil)
        go_simp
        refine (KN.out _ (belF_dr HB2.out)).mono ?_
        rintro e w9 ⟨rfl, hb9⟩
        exact ⟨rfl, PT.out _ 2 (belF_tr (belF_dr HB2.out) hb9) (by unfold ErrOf; simp)⟩
      | true =>
        have KY0 := hidb (fun W' hb => KSY.out W' k0 hb hk0 m0)
        cases m1 : mdHas (afvals us) d k1 with
        | false =>
          rw [if_pos (by simp [m1])] at E0
          rw [E0]
          have KN := hidb (fun W' hb => KSN.out W' k1 hb hk1 m1)
          clear h hc hR hks hlk E0 KSN KSY m0 m1 kc0 kc1 kc2 hk0 hk1 hk2
          --@5
          go_enter Tryz.func64, Tryz.ntmps64
          go_wp2_with (first | (go_at_call 65; (with_reducible refine (ko' _).mono ?_); rintro e w2 ⟨rfl, hb2⟩; have HB2 := hidb hb2; have hc2 := HX.out w2 hb2; have HX2 : Hid (∀ W', Below w2.heap.size w2 W' → (W'.cell? ⟨q, 0, none⟩ = some (.pointer tp) ∧ W'.cell? ⟨q, 1, none⟩ = some (.slice A n c)) ∧ W'.cell? ⟨sb, 0, none⟩ = some (.slice (some ⟨kb, ko, none⟩) 3 c3) ∧ W'.cell? ⟨ob, 0, none⟩ = some (.int .u8 (op : Int)) ∧ W'.cell? ⟨db, 0, none⟩ = some (.int .i64 d) ∧ W'.cell? ⟨kb, ko, none⟩ = some (.int .i64 k0) ∧ W'.cell? ⟨kb, ko + 1, none⟩ = some (.int .i64 k1) ∧ W'.cell? ⟨kb, ko + 2, none⟩ = some (.int .i64 k2)) := hidb (fun W' hb => HX.out W' (belF_tr HB2.out hb)); clear hb2))
          clear a0 a1 a2 a3 a4 a5 a6 a7
          refine wp_region_held_drew (S := fun W => (W.cell? ⟨q, 0, none⟩ = some (.pointer tp) ∧ W.cell? ⟨q, 1, none⟩ = some (.slice A n c)) ∧ W.cell? ⟨sb, 0, none⟩ = some (.slice (some ⟨kb, ko, none⟩) 3 c3) ∧ W.cell? ⟨ob, 0, none⟩ = some (.int .u8 (op : Int)) ∧ W.cell? ⟨db, 0, none⟩ = some (.int .i64 d) ∧ W.cell? ⟨kb, ko, none⟩ = some (.int .i64 k0) ∧ W.cell? ⟨kb, ko + 1, none⟩ = some (.int .i64 k1) ∧ W.cell? ⟨kb, ko + 2, none⟩ = some (.int .i64 k2)) (by kernel_rfl) ?_ (fun hHeld => ?_)
          · (first | ((with_reducible refine HX2.out _ ?_); (repeat (first | with_reducible exact Below.refl _ _ | with_reducible exact Hid.out (by assumption) | with_reducible apply belF_al | with_reducible apply belF_dr)); done) | (go_keep; done))
          refine' wpAnyH_take (i := 0) ?_ (by kernel_rfl) (by kernel_rfl) (by kernel_rfl) ?_ ?_ (by assumption) ?_
          rotate_left 2
          · rfl
          · exact fun _ _ _ h => h
          · refine Or.inl ⟨by rfl, ?_⟩
            intro w hSw
            try dsimp only at hSw
            go_simp
            try with_reducible rfl
          simp only [Act.put, List.setIfInBounds_toArray]
          refine' wpAnyH_take (i := 1) ?_ (by kernel_rfl) (by kernel_rfl) (by kernel_rfl) ?_ ?_ (by assumption) ?_
          rotate_left 2
          · rfl
          · exact fun _ _ _ h => h
          · refine Or.inl ⟨by rfl, ?_⟩
            intro w hSw
            try dsimp only at hSw
            go_simp
            try with_reducible rfl
          simp only [Act.put]
          refine' wpAnyH_take (i := 2) ?_ (by kernel_rfl) (by kernel_rfl) (by kernel_rfl) ?_ ?_ (by assumption) ?_
          rotate_left 2
          · rfl
          · exact fun _ _ _ h => h
          · refine Or.inl ⟨by rfl, ?_⟩
            intro w hSw
            try dsimp only at hSw
            go_simp
            try with_reducible rfl
          simp only [Act.put]
          refine' wpAnyH_take (i := 3) ?_ (by kernel_rfl) (by kernel_rfl) (by kernel_rfl) ?_ ?_ (by assumption) ?_
          rotate_left 2
          · rfl
          · exact fun _ _ _ h => h
          · refine Or.inl ⟨by rfl, ?_⟩
            intro w hSw
            try dsimp only at hSw
            go_simp
            try with_reducible rfl
          simp only [Act.put]
          refine' wpAnyH_take (i := 4) ?_ (by kernel_rfl) (by kernel_rfl) (by kernel_rfl) ?_ ?_ (by assumption) ?_
          rotate_left 2
          · rfl
          · exact fun _ _ _ h => h
          · refine Or.inl ⟨by rfl, ?_⟩
            intro w hSw
            try dsimp only at hSw
            go_simp
            try with_reducible rfl
          simp only [Act.put]
          refine' wpAnyH_take (i := 5) ?_ (by kernel_rfl) (by kernel_rfl) (by kernel_rfl) ?_ ?_ (by assumption) ?_
          rotate_left 2
          · rfl
          · exact fun _ _ _ h => h
          · refine Or.inl ⟨by rfl, ?_⟩
            intro w hSw
            try dsimp only at hSw
            go_simp
            try with_reducible rfl
          simp only [Act.put]
          refine' wpAnyH_take (i := 6) ?_ (by kernel_rfl) (by kernel_rfl) (by kernel_rfl) ?_ ?_ (by assumption) ?_
          rotate_left 2
          · rfl
          · exact fun _ _ _ h => h
          · refine Or.inl ⟨by rfl, ?_⟩
            intro w hSw
            try dsimp only at hSw
            go_simp
            try with_reducible rfl
          simp only [Act.put]
          refine' wpAnyH_take (i := 8) ?_ (by kernel_rfl) (by kernel_rfl) (by kernel_rfl) ?_ ?_ (by assumption) ?_
          rotate_left 2
          · rfl
          · exact fun _ _ _ h => h
          · refine Or.inl ⟨by rfl, ?_⟩
            intro w hSw
            try dsimp only at hSw
            go_simp
            try with_reducible rfl
          simp only [Act.put]
          refine' wpAnyH_take (i := 9) ?_ (by kernel_rfl) (by kernel_rfl) (by kernel_rfl) ?_ ?_ (by assumption) ?_
          rotate_left 2
          · rfl
          · exact fun _ _ _ h => h
          · refine Or.inl ⟨by rfl, ?_⟩
            intro w hSw
            try dsimp only at hSw
            go_simp
            try with_reducible rfl
          simp only [Act.put]
          refine' wpAnyH_take (i := 10) ?_ (by kernel_rfl) (by kernel_rfl) (by kernel_rfl) ?_ ?_ (by assumption) ?_
          rotate_left 2
          · rfl
          · exact fun _ _ _ h => h
          · refine Or.inl ⟨by rfl, ?_⟩
            intro w hSw
            try dsimp only at hSw
            go_simp
            try with_reducible rfl
          simp only [Act.put]
          refine' wpAnyH_take (i := 11) ?_ (by kernel_rfl) (by kernel_rfl) (by kernel_rfl) ?_ ?_ (by assumption) ?_
          rotate_left 2
          · rfl
          · exact fun _ _ _ h => h
          · refine Or.inl ⟨by rfl, ?_⟩
            intro w hSw
            try dsimp only at hSw
            go_simp
            try with_reducible rfl
          simp only [Act.put]
          refine' wpAnyH_take (i := 12) ?_ (by kernel_rfl) (by kernel_rfl) (by kernel_rfl) ?_ ?_ (by assumption) ?_
          rotate_left 2
          · rfl
          · exact fun _ _ _ h => h
          · refine Or.inl ⟨by rfl, ?_⟩
            intro w hSw
            try dsimp only at hSw
            go_simp
            try with_reducible rfl
          simp only [Act.put]
          refine' wpAnyH_take (i := 13) ?_ (by kernel_rfl) (by kernel_rfl) (by kernel_rfl) ?_ ?_ (by assumption) ?_
          rotate_left 2
          · rfl
          · exact fun _ _ _ h => h
          · refine Or.inl ⟨by rfl, ?_⟩
            intro w hSw
            try dsimp only at hSw
            go_simp
            try with_reducible rfl
          simp only [Act.put]
          refine' wpAnyH_take (i := 14) ?_ (by kernel_rfl) (by kernel_rfl) (by kernel_rfl) ?_ ?_ (by assumption) ?_
          rotate_left 2
          · rfl
          · exact fun _ _ _ h => h
          · refine Or.inl ⟨by rfl, ?_⟩
            intro w hSw
            try dsimp only at hSw
            go_simp
            try with_reducible rfl
          simp only [Act.put]
          refine' wpAnyH_take (i := 16) ?_ (by kernel_rfl) (by kernel_rfl) (by kernel_rfl) ?_ ?_ (by assumption) ?_
          rotate_left 2
          · rfl
          · exact fun _ _ _ h => h
          · refine Or.inl ⟨by rfl, ?_⟩
            intro w hSw
            try dsimp only at hSw
            go_simp
            try with_reducible rfl
          simp only [Act.put]
          refine' wpAnyH_take (i := 17) ?_ (by kernel_rfl) (by kernel_rfl) (by kernel_rfl) ?_ ?_ (by assumption) ?_
          rotate_left 2
          · rfl
          · exact fun _ _ _ h => h
          · refine Or.inl ⟨by rfl, ?_⟩
            intro w hSw
            try dsimp only at hSw
            go_simp
            try with_reducible rfl
          simp only [Act.put]
          refine' wpAnyH_take (i := 18) ?_ (by kernel_rfl) (by kernel_rfl) (by kernel_rfl) ?_ ?_ (by assumption) ?_
          rotate_left 2
          · rfl
          · exact fun _ _ _ h => h
          · refine Or.inl ⟨by rfl, ?_⟩
            intro w hSw
            try dsimp only at hSw
            go_simp
            try with_reducible rfl
          simp only [Act.put]
          refine' wpAnyH_take (i := 19) ?_ (by kernel_rfl) (by kernel_rfl) (by kernel_rfl) ?_ ?_ (by assumption) ?_
          rotate_left 2
          · rfl
          · exact fun _ _ _ h => h
          · refine Or.inl ⟨by rfl, ?_⟩
            intro w hSw
            try dsimp only at hSw
            go_simp
            try with_reducible rfl
          simp only [Act.put]
          refine' wpAnyH_take (i := 20) ?_ (by kernel_rfl) (by kernel_rfl) (by kernel_rfl) ?_ ?_ (by assumption) ?_
          rotate_left 2
          · rfl
          · exact fun _ _ _ h => h
          · refine Or.inl ⟨by rfl, ?_⟩
            intro w hSw
            try dsimp only at hSw
            go_simp
            try with_reducible rfl
          simp only [Act.put]
          refine' wpAnyH_take (i := 21) ?_ (by kernel_rfl) (by kernel_rfl) (by kernel_rfl) ?_ ?_ (by assumption) ?_
          rotate_left 2
          · rfl
          · exact fun _ _ _ h => h
          · refine Or.inl ⟨by rfl, ?_⟩
            intro w hSw
            try dsimp only at hSw
            go_simp
            try with_reducible rfl
          simp only [Act.put]
          refine' wpAnyH_take (i := 22) ?_ (by kernel_rfl) (by kernel_rfl) (by kernel_rfl) ?_ ?_ (by assumption) ?_
          rotate_left 2
          · rfl
          · exact fun _ _ _ h => h
          · refine Or.inl ⟨by rfl, ?_⟩
            intro w hSw
            try dsimp only at hSw
            go_simp
            try with_reducible rfl
          simp only [Act.put]
          refine wpAnyH_ready (rs := [7]) (by kernel_rfl) (by simp) (AllReadyH.cons rfl (fun K hK => ?_) AllReadyH.nil)
          go_simp
          refine (KY0.out _ (belF_dr HB2.out)).mono ?_
          rintro e w4 ⟨p0, rfl, hp0, hbw4⟩
          have HB4 := hidb (belF_tr (belF_dr HB2.out) hbw4)
          refine hK.out _ _ ?_ (fun hHeld => ?_)
          · exact HX.out _ HB4.out
          clear hK K hbw4
          refine wpAnyH_ready (rs := [15]) (by kernel_rfl) (by simp) (AllReadyH.cons rfl (fun K hK => ?_) AllReadyH.nil)
          go_simp
          refine (KN.out _ (HB4.out)).mono ?_
          rintro e w9 ⟨rfl, hb9⟩
          exact ⟨rfl, PT.out _ 2 (belF_tr (HB4.out) hb9) (by unfold ErrOf; simp)⟩
        | true =>
          have KY1 := hidb (fun W' hb => KSY.out W' k1 hb hk1 m1)
          cases m2 : mdHas (afvals us) d k2 with
          | false =>
            rw [if_pos (by simp [m2])] at E0
            rw [E0]
            have KN := hidb (fun W' hb => KSN.out W' k2 hb hk2 m2)
            clear h hc hR hks hlk E0 KSN KSY m0 m1 m2 kc0 kc1 kc2 hk0 hk1 hk2
            --@6
            go_enter Tryz.func64, Tryz.ntmps64
            go_wp2_with (first | (go_at_call 65; (with_reducible refine (ko' _).mono ?_); rintro e w2 ⟨rfl, hb2⟩; have HB2 := hidb hb2; have hc2 := HX.out w2 hb2; have HX2 : Hid (∀ W', Below w2.heap.size w2 W' → (W'.cell? ⟨q, 0, none⟩ = some (.pointer tp) ∧ W'.cell? ⟨q, 1, none⟩ = some (.slice A n c)) ∧ W'.cell? ⟨sb, 0, none⟩ = some (.slice (some ⟨kb, ko, none⟩) 3 c3) ∧ W'.cell? ⟨ob, 0, none⟩ = some (.int .u8 (op : Int)) ∧ W'.cell? ⟨db, 0, none⟩ = some (.int .i64 d) ∧ W'.cell? ⟨kb, ko, none⟩ = some (.int .i64 k0) ∧ W'.cell? ⟨kb, ko + 1, none⟩ = some (.int .i64 k1) ∧ W'.cell? ⟨kb, ko + 2, none⟩ = some (.int .i64 k2)) := hidb (fun W' hb => HX.out W' (belF_tr HB2.out hb)); clear hb2))
            clear a0 a1 a2 a3 a4 a5 a6 a7
            refine wp_region_held_drew (S := fun W => (W.cell? ⟨q, 0, none⟩ = some (.pointer tp) ∧ W.cell? ⟨q, 1, none⟩ = some (.slice A n c)) ∧ W.cell? ⟨sb, 0, none⟩ = some (.slice (some ⟨kb, ko, none⟩) 3 c3) ∧ W.cell? ⟨ob, 0, none⟩ = some (.int .u8 (op : Int)) ∧ W.cell? ⟨db, 0, none⟩ = some (.int .i64 d) ∧ W.cell? ⟨kb, ko, none⟩ = some (.int .i64 k0) ∧ W.cell? ⟨kb, ko + 1, none⟩ = some (.int .i64 k1) ∧ W.cell? ⟨kb, ko + 2, none⟩ = some (.int .i64 k2)) (by kernel_rfl) ?_ (fun hHeld => ?_)
            · (first | ((with_reducible refine HX2.out _ ?_); (repeat (first | with_reducible exact Below.refl _ _ | with_reducible exact Hid.out (by assumption) | with_reducible apply belF_al | with_reducible apply belF_dr)); done) | (go_keep; done))
            refine' wpAnyH_take (i := 0) ?_ (by kernel_rfl) (by kernel_rfl) (by kernel_rfl) ?_ ?_ (by assumption) ?_
            rotate_left 2
            · rfl
            · exact fun _ _ _ h => h
            · refine Or.inl ⟨by rfl, ?_⟩
              intro w hSw
              try dsimp only at hSw
              go_simp
              try with_reducible rfl
            simp only [Act.put, List.setIfInBounds_toArray]
            refine' wpAnyH_take (i := 1) ?_ (by kernel_rfl) (by kernel_rfl) (by kernel_rfl) ?_ ?_ (by assumption) ?_
            rotate_left 2
            · rfl
            · exact fun _ _ _ h => h
            · refine Or.inl ⟨by rfl, ?_⟩
              intro w hSw
              try dsimp only at hSw
              go_simp
              try with_reducible rfl
            simp only [Act.put]
            refine' wpAnyH_take (i := 2) ?_ (by kernel_rfl) (by kernel_rfl) (by kernel_rfl) ?_ ?_ (by assumption) ?_
            rotate_left 2
            · rfl
            · exact fun _ _ _ h => h
            · refine Or.inl ⟨by rfl, ?_⟩
              intro w hSw
              try dsimp only at hSw
              go_simp
              try with_reducible rfl
            simp only [Act.put]
            refine' wpAnyH_take (i := 3) ?_ (by kernel_rfl) (by kernel_rfl) (by kernel_rfl) ?_ ?_ (by assumption) ?_
            rotate_left 2
            · rfl
            · exact fun _ _ _ h => h
            · refine Or.inl ⟨by rfl, ?_⟩
              intro w hSw
              try dsimp only at hSw
              go_simp
              try with_reducible rfl
            simp only [Act.put]
            refine' wpAnyH_take (i := 4) ?_ (by kernel_rfl) (by kernel_rfl) (by kernel_rfl) ?_ ?_ (by assumption) ?_
            rotate_left 2
            · rfl
            · exact fun _ _ _ h => h
            · refine Or.inl ⟨by rfl, ?_⟩
              intro w hSw
              try dsimp only at hSw
              go_simp
              try with_reducible rfl
            simp only [Act.put]
            refine' wpAnyH_take (i := 5) ?_ (by kernel_rfl) (by kernel_rfl) (by kernel_rfl) ?_ ?_ (by assumption) ?_
            rotate_left 2
            · rfl
            · exact fun _ _ _ h => h
            · refine Or.inl ⟨by rfl, ?_⟩
              intro w hSw
              try dsimp only at hSw
              go_simp
              try with_reducible rfl
            simp only [Act.put]
            refine' wpAnyH_take (i := 6) ?_ (by kernel_rfl) (by kernel_rfl) (by kernel_rfl) ?_ ?_ (by assumption) ?_
            rotate_left 2
            · rfl
            · exact fun _ _ _ h => h
            · refine Or.inl ⟨by rfl, ?_⟩
              intro w hSw
              try dsimp only at hSw
              go_simp
              try with_reducible rfl
            simp only [Act.put]
            refine' wpAnyH_take (i := 8) ?_ (by kernel_rfl) (by kernel_rfl) (by kernel_rfl) ?_ ?_ (by assumption) ?_
            rotate_left 2
            · rfl
            · exact fun _ _ _ h => h
            · refine Or.inl ⟨by rfl, ?_⟩
              intro w hSw
              try dsimp only at hSw
              go_simp
              try with_reducible rfl
            simp only [Act.put]
            refine' wpAnyH_take (i := 9) ?_ (by kernel_rfl) (by kernel_rfl) (by kernel_rfl) ?_ ?_ (by assumption) ?_
            rotate_left 2
            · rfl
            · exact fun _ _ _ h => h
            · refine Or.inl ⟨by rfl, ?_⟩
              intro w hSw
              try dsimp only at hSw
              go_simp
              try with_reducible rfl
            simp only [Act.put]
            refine' wpAnyH_take (i := 10) ?_ (by kernel_rfl) (by kernel_rfl) (by kernel_rfl) ?_ ?_ (by assumption) ?_
            rotate_left 2
            · rfl
            · exact fun _ _ _ h => h
            · refine Or.inl ⟨by rfl, ?_⟩
              intro w hSw
              try dsimp only at hSw
              go_simp
              try with_reducible rfl
            simp only [Act.put]
            refine' wpAnyH_take (i := 11) ?_ (by kernel_rfl) (by kernel_rfl) (by kernel_rfl) ?_ ?_ (by assumption) ?_
            rotate_left 2
            · rfl
            · exact fun _ _ _ h => h
            · refine Or.inl ⟨by rfl, ?_⟩
              intro w hSw
              try dsimp only at hSw
              go_simp
              try with_reducible rfl
            simp only [Act.put]
            refine' wpAnyH_take (i := 12) ?_ (by kernel_rfl) (by kernel_rfl) (by kernel_rfl) ?_ ?_ (by assumption) ?_
            rotate_left 2
            · rfl
            · exact fun _ _ _ h => h
            · refine Or.inl ⟨by rfl, ?_⟩
              intro w hSw
              try dsimp only at hSw
              go_simp
              try with_reducible rfl
            simp only [Act.put]
            refine' wpAnyH_take (i := 13) ?_ (by kernel_rfl) (by kernel_rfl) (by kernel_rfl) ?_ ?_ (by assumption) ?_
            rotate_left 2
            · rfl
            · exact fun _ _ _ h => h
            · refine Or.inl ⟨by rfl, ?_⟩
              intro w hSw
              try dsimp only at hSw
              go_simp
              try with_reducible rfl
            simp only [Act.put]
            refine' wpAnyH_take (i := 14) ?_ (by kernel_rfl) (by kernel_rfl) (by kernel_rfl) ?_ ?_ (by assumption) ?_
            rotate_left 2
            · rfl
            · exact fun _ _ _ h => h
            · refine Or.inl ⟨by rfl, ?_⟩
              intro w hSw
              try dsimp only at hSw
              go_simp
              try with_reducible rfl
            simp only [Act.put]
            refine' wpAnyH_take (i := 16) ?_ (by kernel_rfl) (by kernel_rfl) (by kernel_rfl) ?_ ?_ (by assumption) ?_
            rotate_left 2
            · rfl
            · exact fun _ _ _ h => h
            · refine Or.inl ⟨by rfl, ?_⟩
              intro w hSw
              try dsimp only at hSw
              go_simp
              try with_reducible rfl
            simp only [Act.put]
            refine' wpAnyH_take (i := 17) ?_ (by kernel_rfl) (by kernel_rfl) (by kernel_rfl) ?_ ?_ (by assumption) ?_
            rotate_left 2
            · rfl
            · exact fun _ _ _ h => h
            · refine Or.inl ⟨by rfl, ?_⟩
              intro w hSw
              try dsimp only at hSw
              go_simp
              try with_reducible rfl
            simp only [Act.put]
            refine' wpAnyH_take (i := 18) ?_ (by kernel_rfl) (by kernel_rfl) (by kernel_rfl) ?_ ?_ (by assumption) ?_
            rotate_left 2
            · rfl
            · exact fun _ _ _ h => h
            · refine Or.inl ⟨by rfl, ?_⟩
              intro w hSw
              try dsimp only at hSw
              go_simp
              try with_reducible rfl
            simp only [Act.put]
            refine' wpAnyH_take (i := 19) ?_ (by kernel_rfl) (by kernel_rfl) (by kernel_rfl) ?_ ?_ (by assumption) ?_
            rotate_left 2
            · rfl
            · exact fun _ _ _ h => h
            · refine Or.inl ⟨by rfl, ?_⟩
              intro w hSw
              try dsimp only at hSw
              go_simp
              try with_reducible rfl
            simp only [Act.put]
            refine' wpAnyH_take (i := 20) ?_ (by kernel_rfl) (by kernel_rfl) (by kernel_rfl) ?_ ?_ (by assumption) ?_
            rotate_left 2
            · rfl
            · exact fun _ _ _ h => h
            · refine Or.inl ⟨by rfl, ?_⟩
              intro w hSw
              try dsimp only at hSw
              go_simp
              try with_reducible rfl
            simp only [Act.put]
            refine' wpAnyH_take (i := 21) ?_ (by kernel_rfl) (by kernel_rfl) (by kernel_rfl) ?_ ?_ (by assumption) ?_
            rotate_left 2
            · rfl
            · exact fun _ _ _ h => h
            · refine Or.inl ⟨by rfl, ?_⟩
              intro w hSw
              try dsimp only at hSw
              go_simp
              try with_reducible rfl
            simp only [Act.put]
            refine' wpAnyH_take (i := 22) ?_ (by kernel_rfl) (by kernel_rfl) (by kernel_rfl) ?_ ?_ (by assumption) ?_
            rotate_left 2
            · rfl
            · exact fun _ _ _ h => h
            · refine Or.inl ⟨by rfl, ?_⟩
              intro w hSw
              try dsimp only at hSw
              go_simp
              try with_reducible rfl
            simp only [Act.put]
            refine wpAnyH_ready (rs := [7]) (by kernel_rfl) (by simp) (AllReadyH.cons rfl (fun K hK => ?_) AllReadyH.nil)
            go_simp
            refine (KY0.out _ (belF_dr HB2.out)).mono ?_
            rintro e w4 ⟨p0, rfl, hp0, hbw4⟩
            have HB4 := hidb (belF_tr (belF_dr HB2.out) hbw4)
            refine hK.out _ _ ?_ (fun hHeld => ?_)
            · exact HX.out _ HB4.out
            clear hK K hbw4
            refine wpAnyH_ready (rs := [15]) (by kernel_rfl) (by simp) (AllReadyH.cons rfl (fun K hK => ?_) AllReadyH.nil)
            go_simp
            refine (KY1.out _ (HB4.out)).mono ?_
            rintro e w5 ⟨p1, rfl, hp1, hbw5⟩
            have HB5 := hidb (belF_tr (HB4.out) hbw5)
            refine hK.out _ _ ?_ (fun hHeld => ?_)
            · exact HX.out _ HB5.out
            clear hK K hbw5
            refine wpAnyH_ready (rs := [23]) (by kernel_rfl) (by simp) (AllReadyH.cons rfl (fun K hK => ?_) AllReadyH.nil)
            go_simp
            refine (KN.out _ (HB5.out)).mono ?_
            rintro e w9 ⟨rfl, hb9⟩
            exact ⟨rfl, PT.out _ 2 (belF_tr (HB5.out) hb9) (by unfold ErrOf; simp)⟩
          | true =>
            rw [if_neg (by simp [m0, m1, m2])] at E0
            have KY2 := hidb (fun W' hb => KSY.out W' k2 hb hk2 m2)
            obtain ⟨v0, hv0⟩ : ∃ v, (afAt (afvals us) d.toNat).getD k0.toNat vl0 = v := ⟨_, rfl⟩
            obtain ⟨v1, hv1⟩ : ∃ v, (afAt (afvals us) d.toNat).getD k1.toNat vl0 = v := ⟨_, rfl⟩
            obtain ⟨v2, hv2⟩ : ∃ v, (afAt (afvals us) d.toNat).getD k2.toNat vl0 = v := ⟨_, rfl⟩
            have hm0 : vMay v0 = true := by rw [← hv0]; exact (mdFits_kind (mdAt_fits hR m0)).1
            have hall : ([k0, k1, k2].all fun k => decide (((afAt (afvals us) d.toNat).getD k.toNat vl0).kind = 1)) = [v0.kind, v1.kind, v2.kind].all fun k => decide (k = 1) := by
              simp only [List.all_cons, List.all_nil, hv0, hv1, hv2]
            rw [hall, hv1, hv2] at E0
            have HH := hidb h
            have HV0 := hidb hv0
            have HA7 : Hid (∀ (W' : World) (p0 p1 p2 : Addr), Below W.heap.size W W' → SlotAt us d k0 p0 → SlotAt us d k1 p1 → SlotAt us d k2 p2 → Calls Tryz.prog 63 #[.slice (some ⟨W'.heap.size, 0, none⟩) 3 3] (W'.alloc (.cells #[.pointer (some p0), .pointer (some p1), .pointer (some p2)] 102)) fun e w' => AskScTo ([v0.kind, v1.kind, v2.kind].all fun k => decide (k = 1)) e ∧ W'.alloc (.cells #[.pointer (some p0), .pointer (some p1), .pointer (some p2)] 102) = w') := hidb (fun W' p0 p1 p2 hb s0 s1 s2 => by
              have hrow := (h.below hb).row
              obtain ⟨b0, o0, u0, rfl, l0, e0, -, c0, -⟩ := s0.cells hrow
              obtain ⟨b1, o1, u1, rfl, l1, e1, -, c1, -⟩ := s1.cells hrow
              obtain ⟨b2, o2, u2, rfl, l2, e2, -, c2, -⟩ := s2.cells hrow
              obtain rfl : v0 = u0 := hv0.symm.trans e0
              obtain rfl : v1 = u1 := hv1.symm.trans e1
              obtain rfl : v2 = u2 := hv2.symm.trans e2
              refine c_askSc (ks := [v0.kind, v1.kind, v2.kind]) (fun j k hk => ?_) rfl (by simp) 3
              match j, hk with
              | 0, hk =>
                obtain rfl : v0.kind = k := by simpa using hk
                exact ⟨b0, o0, by simp, by rw [World.cell?_alloc_lt _ _ _ l0]; exact c0⟩
              | 1, hk =>
                obtain rfl : v1.kind = k := by simpa using hk
                exact ⟨b1, o1, by simp, by rw [World.cell?_alloc_lt _ _ _ l1]; exact c1⟩
              | 2, hk =>
                obtain rfl : v2.kind = k := by simpa using hk
                exact ⟨b2, o2, by simp, by rw [World.cell?_alloc_lt _ _ _ l2]; exact c2⟩
              | j + 3, hk => simp at hk)
            cases hbb : ([v0.kind, v1.kind, v2.kind].all fun k => decide (k = 1)) with
            | false =>
              rw [if_pos hbb] at E0
              rw [E0]
              have HKA : Hid (∀ (W' : World) (p0 p1 p2 : Addr), Below W.heap.size W W' → SlotAt us d k0 p0 → SlotAt us d k1 p1 → SlotAt us d k2 p2 → Calls Tryz.prog 63 #[.slice (some ⟨W'.heap.size, 0, none⟩) 3 3] (W'.alloc (.cells #[.pointer (some p0), .pointer (some p1), .pointer (some p2)] 102)) fun e w' => e = .panicked [{ v := .iface (thrT 5) (.agg #[]), recovered := false }] ∧ W'.alloc (.cells #[.pointer (some p0), .pointer (some p1), .pointer (some p2)] 102) = w') := hidb (fun W' p0 p1 p2 hb s0 s1 s2 => (HA7.out W' p0 p1 p2 hb s0 s1 s2).mono fun e w' ⟨h1, h2⟩ => ⟨by rw [hbb] at h1; exact h1, h2⟩)
              clear h hc hR hks hlk E0 KSN KSY m0 m1 m2 kc0 kc1 kc2 hk0 hk1 hk2 HA7 hv0 hv1 hv2 hm0 hall hbb HH HV0
              --@7
              go_enter Tryz.func64, Tryz.ntmps64
              go_wp2_with (first | (go_at_call 65; (with_reducible refine (ko' _).mono ?_); rintro e w2 ⟨rfl, hb2⟩; have HB2 := hidb hb2; have hc2 := HX.out w2 hb2; clear hb2))
              clear a0 a1 a2 a3 a4 a5 a6 a7
              (first | go_region_held3 (fun W => (W.cell? ⟨q, 0, none⟩ = some (.pointer tp) ∧ W.cell? ⟨q, 1, none⟩ = some (.slice A n c)) ∧ W.cell? ⟨sb, 0, none⟩ = some (.slice (some ⟨kb, ko, none⟩) 3 c3) ∧ W.cell? ⟨ob, 0, none⟩ = some (.int .u8 (op : Int)) ∧ W.cell? ⟨db, 0, none⟩ = some (.int .i64 d) ∧ W.cell? ⟨kb, ko, none⟩ = some (.int .i64 k0) ∧ W.cell? ⟨kb, ko + 1, none⟩ = some (.int .i64 k1) ∧ W.cell? ⟨kb, ko + 2, none⟩ = some (.int .i64 k2))
                (first | ((with_reducible refine HX.out _ ?_); (repeat (first | with_reducible exact Below.refl _ _ | with_reducible exact Hid.out (by assumption) | with_reducible apply belF_al | with_reducible apply belF_dr)); done) | (go_keep; done))
                (first
                  | (go_at_call 57; (with_reducible refine (KY0.out _ (by (repeat (first | with_reducible exact Below.refl _ _ | with_reducible exact Hid.out (by assumption) | with_reducible apply belF_al | with_reducible apply belF_dr)))).mono ?_); rintro e w4 ⟨p0, rfl, hp0, hb4⟩; have HB4 := hidb (belF_tr (belF_dr HB2.out) hb4); have hc4 := HX.out w4 HB4.out; have HP0 := hidb hp0; clear hb4 hp0)
                  | (go_at_call 57; (with_reducible refine (KY1.out _ (by (repeat (first | with_reducible exact Below.refl _ _ | with_reducible exact Hid.out (by assumption) | with_reducible apply belF_al | with_reducible apply belF_dr)))).mono ?_); rintro e w5 ⟨p1, rfl, hp1, hb5⟩; have HB5 := hidb (belF_tr HB4.out hb5); have hc5 := HX.out w5 HB5.out; have HP1 := hidb hp1; clear hb5 hp1)
                  | (go_at_call 57; (with_reducible refine (KY2.out _ (by (repeat (first | with_reducible exact Below.refl _ _ | with_reducible exact Hid.out (by assumption) | with_reducible apply belF_al | with_reducible apply belF_dr)))).mono ?_); rintro e w6 ⟨p2, rfl, hp2, hb6⟩; have HB6 := hidb (belF_tr HB5.out hb6); have hc6 := HX.out w6 HB6.out; have HP2 := hidb hp2; clear hb6 hp2)) | fail)
              clear hc2 hc4 hc5 hc6
              have ka := HKA.out w6 p0 p1 p2 HB6.out HP0.out HP1.out HP2.out
              go_wp2_with (first | (go_at_call 63; (with_reducible refine ka.mono ?_); rintro e w8 ⟨rfl, rfl⟩))
              exact ⟨rfl, PT.out _ 5 (belF_al HB6.out _) (by unfold ErrOf; simp)⟩
            | true =>
              rw [if_neg (by rw [hbb]; simp)] at E0
              rw [E0]
              have hk01 : v0.kind = 1 := by simp at hbb; exact hbb.1
              have HKA : Hid (∀ (W' : World) (p0 p1 p2 : Addr), Below W.heap.size W W' → SlotAt us d k0 p0 → SlotAt us d k1 p1 → SlotAt us d k2 p2 → Calls Tryz.prog 63 #[.slice (some ⟨W'.heap.size, 0, none⟩) 3 3] (W'.alloc (.cells #[.pointer (some p0), .pointer (some p1), .pointer (some p2)] 102)) fun e w' => e = .returned (.tuple #[]) ∧ W'.alloc (.cells #[.pointer (some p0), .pointer (some p1), .pointer (some p2)] 102) = w') := hidb (fun W' p0 p1 p2 hb s0 s1 s2 => (HA7.out W' p0 p1 p2 hb s0 s1 s2).mono fun e w' ⟨h1, h2⟩ => ⟨by rw [hbb] at h1; exact h1, h2⟩)
              obtain ⟨hvi1, hvi2⟩ : VIn v1 ∧ VIn v2 := by
                obtain ⟨q1, -, -, s1, -⟩ := mdHas_true m1
                have hrow := h.row
                have gk : ∀ k, mdHas (afvals us) d k = true → VIn ((afAt (afvals us) d.toNat).getD k.toNat vl0) := fun k hk => by
                  obtain ⟨z, hz, x0, x1, x2, x3⟩ := mdHas_true hk
                  have hok := hrow.each z (List.mem_of_getElem? hz)
                  rw [afAt_at hz, List.getD_eq_getElem?_getD, List.getElem?_eq_getElem (by omega)]
                  exact hok.vin _ (List.getElem_mem _)
                exact ⟨by rw [← hv1]; exact gk k1 m1, by rw [← hv2]; exact gk k2 m2⟩
              have hlt := fCalc_lt19 op v1.bits v2.bits hvi1.bits hvi2.bits
              have KC : Hid (∀ W', Calls Tryz.prog 66 #[.int .u8 (op : Int), .int .u64 (v1.bits : Int), .int .u64 (v2.bits : Int)] W' (CalcOf op v1.bits v2.bits W')) := hidb (fun W' => c_fcalc19 op v1.bits v2.bits W' hgood.1 hgood.2 hvi1.bits hvi2.bits)
              obtain ⟨R, hRR⟩ : ∃ R, fCalc op v1.bits v2.bits = R := ⟨_, rfl⟩
              unfold CalcOf at KC
              rw [hRR] at hlt KC ⊢
              have HBIT : Hid (∀ W' p, Below W.heap.size W W' → (SlotAt us d k1 p → ∃ b o, p = ⟨b, o, none⟩ ∧ W'.cell? ⟨b, o + 1, none⟩ = some (.int .u64 (v1.bits : Int))) ∧ (SlotAt us d k2 p → ∃ b o, p = ⟨b, o, none⟩ ∧ W'.cell? ⟨b, o + 1, none⟩ = some (.int .u64 (v2.bits : Int)))) := hidb (fun W' p hb => ⟨fun s => by
                obtain ⟨b1, o1, u1, e, l1, e1, -, -, c1, -⟩ := s.cells (h.below hb).row
                obtain rfl : v1 = u1 := hv1.symm.trans e1
                exact ⟨b1, o1, e, c1⟩, fun s => by
                obtain ⟨b1, o1, u1, e, l1, e1, -, -, c1, -⟩ := s.cells (h.below hb).row
                obtain rfl : v2 = u1 := hv2.symm.trans e1
                exact ⟨b1, o1, e, c1⟩⟩)
              have HST : Hid (∀ W' p, Below W.heap.size W W' → SlotAt us d k0 p → ∃ g o, p = ⟨g, o, none⟩ ∧ ((W'.cell? ⟨g, o + 1, none⟩).isSome = true) ∧ W'.frozen? ⟨g, o + 1, none⟩ = false ∧ Hid (ChgTo w W q (afvals us) (mdWith (afvals us) d.toNat k0.toNat ⟨1, R, 0, 0⟩, 0) (.returned (.tuple #[])) (W'.setCell ⟨g, o + 1, none⟩ (.int .u64 R)))) := hidb (fun W' p hb hp => by
                obtain ⟨g, o, e, k1, k2, k3⟩ := (h.below hb).setB hp v0 hv0 R hlt (afvals us) rfl
                rw [one_form hm0 hk01] at k3
                exact ⟨g, o, e, k1, k2, hidb k3⟩)
              clear h hc hR hks hlk E0 KSN KSY m0 m1 m2 kc0 kc1 kc2 hk0 hk1 hk2 HA7 hv0 hv1 hv2 hm0 hall hbb HH HV0 hvi1 hvi2 hlt hk01 hRR hgood
              --@8
              go_enter Tryz.func64, Tryz.ntmps64
              go_wp2_with (first | (go_at_call 65; (with_reducible refine (ko' _).mono ?_); rintro e w2 ⟨rfl, hb2⟩; have HB2 := hidb hb2; have hc2 := HX.out w2 hb2; clear hb2))
              clear a0 a1 a2 a3 a4 a5 a6 a7
              (first | go_region_held3 (fun W => (W.cell? ⟨q, 0, none⟩ = some (.pointer tp) ∧ W.cell? ⟨q, 1, none⟩ = some (.slice A n c)) ∧ W.cell? ⟨sb, 0, none⟩ = some (.slice (some ⟨kb, ko, none⟩) 3 c3) ∧ W.cell? ⟨ob, 0, none⟩ = some (.int .u8 (op : Int)) ∧ W.cell? ⟨db, 0, none⟩ = some (.int .i64 d) ∧ W.cell? ⟨kb, ko, none⟩ = some (.int .i64 k0) ∧ W.cell? ⟨kb, ko + 1, none⟩ = some (.int .i64 k1) ∧ W.cell? ⟨kb, ko + 2, none⟩ = some (.int .i64 k2))
                (first | ((with_reducible refine HX.out _ ?_); (repeat (first | with_reducible exact Below.refl _ _ | with_reducible exact Hid.out (by assumption) | with_reducible apply belF_al | with_reducible apply belF_dr)); done) | (go_keep; done))
                (first
                  | (go_at_call 57; (with_reducible refine (KY0.out _ (by (repeat (first | with_reducible exact Below.refl _ _ | with_reducible exact Hid.out (by assumption) | with_reducible apply belF_al | with_reducible apply belF_dr)))).mono ?_); rintro e w4 ⟨p0, rfl, hp0, hb4⟩; have HB4 := hidb (belF_tr (belF_dr HB2.out) hb4); have hc4 := HX.out w4 HB4.out; have HP0 := hidb hp0; clear hb4 hp0)
                  | (go_at_call 57; (with_reducible refine (KY1.out _ (by (repeat (first | with_reducible exact Below.refl _ _ | with_reducible exact Hid.out (by assumption) | with_reducible apply belF_al | with_reducible apply belF_dr)))).mono ?_); rintro e w5 ⟨p1, rfl, hp1, hb5⟩; have HB5 := hidb (belF_tr HB4.out hb5); have hc5 := HX.out w5 HB5.out; have HP1 := hidb hp1; clear hb5 hp1)
                  | (go_at_call 57; (with_reducible refine (KY2.out _ (by (repeat (first | with_reducible exact Below.refl _ _ | with_reducible exact Hid.out (by assumption) | with_reducible apply belF_al | with_reducible apply belF_dr)))).mono ?_); rintro e w6 ⟨p2, rfl, hp2, hb6⟩; have HB6 := hidb (belF_tr HB5.out hb6); have hc6 := HX.out w6 HB6.out; have HP2 := hidb hp2; clear hb6 hp2)) | fail)
              clear hc2 hc4 hc5 hc6
              have ka := HKA.out w6 p0 p1 p2 HB6.out HP0.out HP1.out HP2.out
              have hb7 := belF_al HB6.out (.cells #[.pointer (some p0), .pointer (some p1), .pointer (some p2)] 102)
              have hc7 := HX.out _ hb7
              obtain ⟨g1, o1, rfl, x1⟩ := (HBIT.out _ p1 hb7).1 HP1.out
              obtain ⟨g2, o2, rfl, x2⟩ := (HBIT.out _ p2 hb7).2 HP2.out
              obtain ⟨g0, o0, rfl, -⟩ := HST.out _ p0 hb7 HP0.out
              have HB7 := hidb hb7
              clear hb7
              go_wp2_with (first | (go_at_call 63; (with_reducible refine ka.mono ?_); rintro e w8 ⟨rfl, rfl⟩))
              clear ka
              generalize hW7 : (w6.alloc (.cells #[.pointer (some ⟨g0, o0, none⟩), .pointer (some ⟨g1, o1, none⟩), .pointer (some ⟨g2, o2, none⟩)] 102)) = w7 at *
              obtain ⟨-, -, y0, -⟩ := hc7
              clear hW7
              go_region_law (first
                | (go_simp; go_at_call 66; (with_reducible refine (KC.out _).mono ?_); rintro e w8 ⟨rfl, q8, hw8⟩; have HB8 : Hid (Below W.heap.size W w8) := hidb (by rw [hw8]; exact belowN (belF_dr HB7.out) _); obtain ⟨g9, o9, e9, u9, f9, HT9⟩ := HST.out w8 _ HB8.out HP0.out; injection e9 with e91 e92; subst e91 e92; obtain ⟨y9, u9⟩ := Option.isSome_iff_exists.1 u9; clear hw8))
              all_goals first
                | (exact bodyPost_end (v := .tuple #[]) (by simp [results, Tryz.results64, go_sem]) rfl HT9.out)
                | (go_wp2; exact bodyPost_end (v := .tuple #[]) (by simp [results, Tryz.results64, go_sem]) rfl HT9.out)
  · have E : mdCalc l (afvals us) op d ks = (afvals us, 1) := by unfold mdCalc; rw [if_neg (by rw [hR]; simp), if_pos (Or.inl (by rw [hlk]; exact h3))]
    rw [E]
    have e3 : ((n3 : Int) != 3) = true := by simp; omega
    clear h hc hR hks hlk E h3
    --@9
    go_enter Tryz.func64, Tryz.ntmps64
    go_wp2
    exact ⟨rfl, PT.out _ 1 (Below.refl _ _) (by unfold ErrOf; simp)⟩
end
end Go.Proofs.YtdcnpaodcjfdbaaGreatDoor
