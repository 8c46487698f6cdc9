/- What ask of layer 5 (index) throws, or doesn't. -/
import Derived.Test.YtoghahldlnhpdaaIndexAsk
namespace Go.Proofs.Ytoghahldlnhpdaa
open Go.RowKit
set_option linter.unusedVariables false

def Asked (w : World) (I : List Nat → World → Prop) (ps : List Nat) (e : Ending) (w' : World) : Prop := e = .returned (.tuple #[]) ∧ I ps w'
def Threw (T : TypeId) (w : World) (e : Ending) (w' : World) : Prop := e = .panicked [thrown T] ∧ Below w.heap.size w w'

/-- Some run isn't there. -/
theorem code_xask_gone {a : Option Addr} {f : Value} {n : Nat} (A : Option Addr) (m c : Nat) (rs : List (Int × Int)) (w : World) (hp : PagesAt w (.pointer a) n) (hn : n ≤ 1024)
    (hs : Rn w w.heap.size A m rs) (hm : m ≤ 65536) (hr : ∀ r ∈ rs, in64 r.1 ∧ in64 r.2) (hT : rs.all (xThere n) = false) :
    Calls Try.prog 23 #[.pointer a, .slice A m c, f] w (Threw 58 w) := by
  have hb : Below w.heap.size w (w.alloc (.cells #[.pointer a] 24)) := (Below.refl _ _).alloc (Nat.le_refl _) _
  have c1 := code_xhas (v := .pointer a) (t := w.heap.size) A m c rs (w.alloc (.cells #[.pointer a] 24)) (by simp) (hp.below hb) hn ((hs.below hb).more hb.size) hm hr
  rw [hT] at c1
  unfold ResBool at c1
  have HB := hidb hb
  clear hp hs hr hb hT
  go_enter Try.func23, Try.ntmps23
  go_wp2_with (go_at_call 29; (with_reducible refine c1.mono ?_); rintro e w1 ⟨rfl, hb1⟩)
  exact ⟨rfl, rfl, nextB HB.out hb1⟩


/-- What ask does: it returns, all pages being right; or it throws. -/
def AskEnd (W0 : World) (ok : List Nat → Nat → Bool) (I : List Nat → World → Prop) (ps : List Nat) (e : Ending) (w' : World) : Prop :=
  (askAll ok [] ps = true ∧ e = .returned (.tuple #[]) ∧ I ps w') ∨ (askAll ok [] ps = false ∧ e = .panicked [thrown 59] ∧ Below W0.heap.size W0 w')

theorem grown_cell {w w' : World} {G : Nat} (hg : w.grownBy w' (some G)) {p : Addr} {v : Value} (hc : w.cell? p = some v) (hp : p.block ≠ G) : w'.cell? p = some v := hg.cell hc (fun e => hp (by injection e))

set_option maxHeartbeats 1000000 in
theorem code_xask {a : Option Addr} {n G : Nat} {ok : List Nat → Nat → Bool} {I : List Nat → World → Prop} {caps : Array Value} (W0 : World) (A : Option Addr) (m c : Nat) (rs : List (Int × Int)) (w : World) (hp : PagesAt w (.pointer a) n) (hn : n ≤ 1024)
    (hs : Rn W0 W0.heap.size A m rs) (hm : m ≤ 65536) (hr : ∀ r ∈ rs, in64 r.1 ∧ in64 r.2) (hT : rs.all (xThere n) = true)
    (hI : I [] w) (hq : Asks 24 caps n G ok I W0) (hG : G < w.heap.size) :
    Calls Try.prog 23 #[.pointer a, .slice A m c, .func (.func 24) #[] caps] w (AskEnd W0 ok I (pgs rs)) := by
  have hb : Below w.heap.size w (w.alloc (.cells #[.pointer a] 24)) := (Below.refl _ _).alloc (Nat.le_refl _) _
  have hB0 := hq.base _ _ hI
  have c1 := code_xhas (v := .pointer a) (t := w.heap.size) A m c rs (w.alloc (.cells #[.pointer a] 24)) (by simp) (hp.below hb) hn (((hs.below hB0).more hB0.size).below hb |>.more hb.size) hm hr
  rw [hT] at c1
  unfold ResBool at c1
  have HB := hidb hb
  have HQ := hidb hq
  have HS := hidb hs
  have HL := hidb hs.1
  have HT := hidb hT
  have HI := hidb (hq.keep _ _ _ hI hb)
  have HE0 : Hid (∀ w', askAll ok [] (pgs rs) = true → I (pgs rs) w' → AskEnd W0 ok I (pgs rs) (.returned (.tuple #[])) w') := hidb (fun w' h1 h2 => Or.inl ⟨h1, rfl, h2⟩)
  have HE1 : Hid (∀ d w', askAll ok [] (pgs rs) = false → I d w' → AskEnd W0 ok I (pgs rs) (.panicked [thrown 59]) w') := hidb (fun d w' h1 h2 => Or.inr ⟨h1, rfl, hq.base _ _ h2⟩)
  clear hp hs hr hb hT hq hI hB0
  go_enter Try.func23, Try.ntmps23
  go_wp2_with (go_at_call 29; (with_reducible refine c1.mono ?_); rintro e w1 ⟨rfl, hb1⟩)
  have I1 := hidb (HQ.out.keep _ _ _ HI.out hb1)
  have B1 := hidb (nextB HB.out hb1)
  have hG1 : G < w1.heap.size := by have := B1.out.size; omega
  clear hb1 c1
  go_loopw [16] (fun k wr => ∃ j : Nat, j ≤ m ∧ k = .int .i64 j ∧ Hid (askAll ok [] (pgs (rs.take j)) = true) ∧ Hid (I (pgs (rs.take j)) wr) ∧ G < wr.heap.size) (fun k _ => (m - intOf k).toNat)
  case atStart => exact ⟨0, by omega, rfl, hidb rfl, I1, hG1⟩
  case round =>
    obtain ⟨j, hj, rfl, HA, HI2, hGr⟩ := hrel
    by_cases hlt : j < m
    · have hB := HQ.out.base _ _ HI2.out
      obtain ⟨b, off, s, l, rfl, _, hx, hc1, hc2⟩ := (HS.out.below hB).at_ hlt
      obtain ⟨t1, t2, t3, t4, t5⟩ := of_decide_eq_true (List.all_eq_true.1 HT.out (s, l) (List.mem_of_getElem? hx))
      simp only at t1 t2 t3 t4 t5
      obtain ⟨S, rfl⟩ : ∃ S : Nat, s = S := ⟨s.toNat, by omega⟩
      obtain ⟨L, rfl⟩ : ∃ L : Nat, l = L := ⟨l.toNat, by omega⟩
      have HTK : Hid (∀ i, pgs (rs.take j) ++ (List.range i).map (S + ·) ++ [S + i] = pgs (rs.take j) ++ (List.range (i + 1)).map (S + ·)) := hidb (fun i => by rw [List.range_succ, List.map_append, List.append_assoc]; rfl)
      have HTJ : Hid (pgs (rs.take j) ++ (List.range L).map (S + ·) = pgs (rs.take (j + 1))) := hidb (by
        rw [List.take_add_one, hx]
        show _ = pgs (rs.take j ++ [((S : Int), (L : Int))])
        rw [pgs_snoc]; rfl)
      have HTA : Hid (∀ i, i < L → ∃ q, pgs rs = (pgs (rs.take j) ++ (List.range (i + 1)).map (S + ·)) ++ q) := hidb (fun i hi => by
        obtain ⟨z, hz⟩ : ∃ z, L = i + 1 + z := ⟨L - (i + 1), by omega⟩
        refine ⟨(List.range z).map (fun k => S + (i + 1 + k)) ++ pgs (rs.drop (j + 1)), ?_⟩
        conv => lhs; rw [← List.take_append_drop (j + 1) rs, pgs_append, ← HTJ.out, hz, List.range_add]
        simp [List.append_assoc, Function.comp_def])
      have hj0 : (0 : Int) ≤ (j : Int) := by omega
      have hj1 : (j : Int) < (m : Int) := by omega
      have HRB : Hid (I (pgs (rs.take j)) (wr.alloc (.cells #[.int .i64 (S : Int), .int .i64 (L : Int)] 44))) := hidb (HQ.out.keep _ _ _ HI2.out ((Below.refl _ _).alloc (Nat.le_refl _) _))
      clear hB hx
      obtain ⟨wo, rfl⟩ : ∃ wo : World, wo = wr := ⟨_, rfl⟩
      go_wp2
      go_loopw [22] (fun k wr => ∃ i : Nat, i ≤ L ∧ k = .int .i64 i ∧ Hid (askAll ok [] (pgs (rs.take j) ++ (List.range i).map (S + ·)) = true) ∧ Hid (I (pgs (rs.take j) ++ (List.range i).map (S + ·)) wr) ∧ wo.heap.size < wr.heap.size ∧ wr.cell? ⟨wo.heap.size, 0, none⟩ = some (.int .i64 S)) (fun k _ => (L - intOf k).toNat)
      case atStart => exact ⟨0, by omega, rfl, by simpa using HA, by simpa using HRB, by simp, by simp⟩
      case round =>
        obtain ⟨i, hi, rfl, HA3, HI3, hsz, hcs⟩ := hrel
        by_cases hil : i < L
        · have cq := HQ.out.call _ (S + i) wr HI3.out (by omega)
          rw [Int.natCast_add] at cq
          have hne : wo.heap.size ≠ G := by omega
          cases hok : ok (pgs (rs.take j) ++ (List.range i).map (S + ·)) (S + i) with
          | true =>
            rw [hok] at cq
            have HA4 : Hid (askAll ok [] (pgs (rs.take j) ++ (List.range (i + 1)).map (S + ·)) = true) := hidb (by
              rw [← HTK.out, askAll_snoc, HA3.out, List.nil_append, hok]; rfl)
            clear hok
            go_wp2_with (go_at_call 24; (with_reducible refine cq.mono ?_); rintro e w3 ⟨rfl, hg3, hI3⟩)
            have HI4 : Hid (I (pgs (rs.take j) ++ (List.range (i + 1)).map (S + ·)) w3) := hidb (by rw [← HTK.out]; exact hI3)
            have hsz3 := hg3.size
            have HC3 := hidb (grown_cell hg3 hcs hne)
            clear hg3 hI3
            go_roundw
            case rel => exact ⟨i + 1, by omega, by go_num, HA4, HI4, by omega, HC3.out⟩
            case measure => simp [intOf]; omega
          | false =>
            rw [hok] at cq
            have HF : Hid (askAll ok [] (pgs rs) = false) := hidb (by
              obtain ⟨q, hq⟩ := HTA.out i hil
              rw [hq]
              refine askAll_prefix ok q _ [] ?_
              rw [← HTK.out, askAll_snoc, HA3.out, List.nil_append, hok]; rfl)
            clear hok
            go_wp2_with (go_at_call 24; (with_reducible refine cq.mono ?_); rintro e w3 ⟨rfl, hg3, hI3⟩)
            exact ⟨rfl, HE1.out _ _ HF.out hI3⟩
        · have hiL : Hid (i = L) := hidb (by omega)
          have HA5 : Hid (askAll ok [] (pgs (rs.take (j + 1))) = true) := hidb (by rw [← HTJ.out, ← hiL.out]; exact HA3.out)
          have HI5 : Hid (I (pgs (rs.take (j + 1))) wr) := hidb (by rw [← HTJ.out, ← hiL.out]; exact HI3.out)
          go_wp2
          go_roundw
          case rel => exact ⟨j + 1, by omega, by go_num, HA5, HI5, by omega⟩
          case measure => simp [intOf]; omega
    · have hall : Hid (rs.take j = rs) := hidb (List.take_of_length_le (by have := HL.out; omega))
      have P : Hid (AskEnd W0 ok I (pgs rs) (.returned (.tuple #[])) wr) := hidb (HE0.out wr (by have := HA.out; rwa [hall.out] at this) (by have := HI2.out; rwa [hall.out] at this))
      go_wp2
      exact bodyPost_ret (v := .tuple #[]) (by simp [results, Try.results23, go_sem]) rfl P.out

set_option maxHeartbeats 1000000 in
theorem code_xask_set {a : Option Addr} {n G : Nat} {ok : List Nat → Nat → Bool} {I : List Nat → World → Prop} {caps : Array Value} (W0 : World) (A : Option Addr) (m c : Nat) (rs : List (Int × Int)) (w : World) (hp : PagesAt w (.pointer a) n) (hn : n ≤ 1024)
    (hs : Rn W0 W0.heap.size A m rs) (hm : m ≤ 65536) (hr : ∀ r ∈ rs, in64 r.1 ∧ in64 r.2) (hT : rs.all (xThere n) = true)
    (hI : I [] w) (hq : Asks 27 caps n G ok I W0) (hG : G < w.heap.size) :
    Calls Try.prog 23 #[.pointer a, .slice A m c, .func (.func 27) #[] caps] w (AskEnd W0 ok I (pgs rs)) := by
  have hb : Below w.heap.size w (w.alloc (.cells #[.pointer a] 24)) := (Below.refl _ _).alloc (Nat.le_refl _) _
  have hB0 := hq.base _ _ hI
  have c1 := code_xhas (v := .pointer a) (t := w.heap.size) A m c rs (w.alloc (.cells #[.pointer a] 24)) (by simp) (hp.below hb) hn (((hs.below hB0).more hB0.size).below hb |>.more hb.size) hm hr
  rw [hT] at c1
  unfold ResBool at c1
  have HB := hidb hb
  have HQ := hidb hq
  have HS := hidb hs
  have HL := hidb hs.1
  have HT := hidb hT
  have HI := hidb (hq.keep _ _ _ hI hb)
  have HE0 : Hid (∀ w', askAll ok [] (pgs rs) = true → I (pgs rs) w' → AskEnd W0 ok I (pgs rs) (.returned (.tuple #[])) w') := hidb (fun w' h1 h2 => Or.inl ⟨h1, rfl, h2⟩)
  have HE1 : Hid (∀ d w', askAll ok [] (pgs rs) = false → I d w' → AskEnd W0 ok I (pgs rs) (.panicked [thrown 59]) w') := hidb (fun d w' h1 h2 => Or.inr ⟨h1, rfl, hq.base _ _ h2⟩)
  clear hp hs hr hb hT hq hI hB0
  go_enter Try.func23, Try.ntmps23
  go_wp2_with (go_at_call 29; (with_reducible refine c1.mono ?_); rintro e w1 ⟨rfl, hb1⟩)
  have I1 := hidb (HQ.out.keep _ _ _ HI.out hb1)
  have B1 := hidb (nextB HB.out hb1)
  have hG1 : G < w1.heap.size := by have := B1.out.size; omega
  clear hb1 c1
  go_loopw [16] (fun k wr => ∃ j : Nat, j ≤ m ∧ k = .int .i64 j ∧ Hid (askAll ok [] (pgs (rs.take j)) = true) ∧ Hid (I (pgs (rs.take j)) wr) ∧ G < wr.heap.size) (fun k _ => (m - intOf k).toNat)
  case atStart => exact ⟨0, by omega, rfl, hidb rfl, I1, hG1⟩
  case round =>
    obtain ⟨j, hj, rfl, HA, HI2, hGr⟩ := hrel
    by_cases hlt : j < m
    · have hB := HQ.out.base _ _ HI2.out
      obtain ⟨b, off, s, l, rfl, _, hx, hc1, hc2⟩ := (HS.out.below hB).at_ hlt
      obtain ⟨t1, t2, t3, t4, t5⟩ := of_decide_eq_true (List.all_eq_true.1 HT.out (s, l) (List.mem_of_getElem? hx))
      simp only at t1 t2 t3 t4 t5
      obtain ⟨S, rfl⟩ : ∃ S : Nat, s = S := ⟨s.toNat, by omega⟩
      obtain ⟨L, rfl⟩ : ∃ L : Nat, l = L := ⟨l.toNat, by omega⟩
      have HTK : Hid (∀ i, pgs (rs.take j) ++ (List.range i).map (S + ·) ++ [S + i] = pgs (rs.take j) ++ (List.range (i + 1)).map (S + ·)) := hidb (fun i => by rw [List.range_succ, List.map_append, List.append_assoc]; rfl)
      have HTJ : Hid (pgs (rs.take j) ++ (List.range L).map (S + ·) = pgs (rs.take (j + 1))) := hidb (by
        rw [List.take_add_one, hx]
        show _ = pgs (rs.take j ++ [((S : Int), (L : Int))])
        rw [pgs_snoc]; rfl)
      have HTA : Hid (∀ i, i < L → ∃ q, pgs rs = (pgs (rs.take j) ++ (List.range (i + 1)).map (S + ·)) ++ q) := hidb (fun i hi => by
        obtain ⟨z, hz⟩ : ∃ z, L = i + 1 + z := ⟨L - (i + 1), by omega⟩
        refine ⟨(List.range z).map (fun k => S + (i + 1 + k)) ++ pgs (rs.drop (j + 1)), ?_⟩
        conv => lhs; rw [← List.take_append_drop (j + 1) rs, pgs_append, ← HTJ.out, hz, List.range_add]
        simp [List.append_assoc, Function.comp_def])
      have hj0 : (0 : Int) ≤ (j : Int) := by omega
      have hj1 : (j : Int) < (m : Int) := by omega
      have HRB : Hid (I (pgs (rs.take j)) (wr.alloc (.cells #[.int .i64 (S : Int), .int .i64 (L : Int)] 44))) := hidb (HQ.out.keep _ _ _ HI2.out ((Below.refl _ _).alloc (Nat.le_refl _) _))
      clear hB hx
      obtain ⟨wo, rfl⟩ : ∃ wo : World, wo = wr := ⟨_, rfl⟩
      go_wp2
      go_loopw [22] (fun k wr => ∃ i : Nat, i ≤ L ∧ k = .int .i64 i ∧ Hid (askAll ok [] (pgs (rs.take j) ++ (List.range i).map (S + ·)) = true) ∧ Hid (I (pgs (rs.take j) ++ (List.range i).map (S + ·)) wr) ∧ wo.heap.size < wr.heap.size ∧ wr.cell? ⟨wo.heap.size, 0, none⟩ = some (.int .i64 S)) (fun k _ => (L - intOf k).toNat)
      case atStart => exact ⟨0, by omega, rfl, by simpa using HA, by simpa using HRB, by simp, by simp⟩
      case round =>
        obtain ⟨i, hi, rfl, HA3, HI3, hsz, hcs⟩ := hrel
        by_cases hil : i < L
        · have cq := HQ.out.call _ (S + i) wr HI3.out (by omega)
          rw [Int.natCast_add] at cq
          have hne : wo.heap.size ≠ G := by omega
          cases hok : ok (pgs (rs.take j) ++ (List.range i).map (S + ·)) (S + i) with
          | true =>
            rw [hok] at cq
            have HA4 : Hid (askAll ok [] (pgs (rs.take j) ++ (List.range (i + 1)).map (S + ·)) = true) := hidb (by
              rw [← HTK.out, askAll_snoc, HA3.out, List.nil_append, hok]; rfl)
            clear hok
            go_wp2_with (go_at_call 27; (with_reducible refine cq.mono ?_); rintro e w3 ⟨rfl, hg3, hI3⟩)
            have HI4 : Hid (I (pgs (rs.take j) ++ (List.range (i + 1)).map (S + ·)) w3) := hidb (by rw [← HTK.out]; exact hI3)
            have hsz3 := hg3.size
            have HC3 := hidb (grown_cell hg3 hcs hne)
            clear hg3 hI3
            go_roundw
            case rel => exact ⟨i + 1, by omega, by go_num, HA4, HI4, by omega, HC3.out⟩
            case measure => simp [intOf]; omega
          | false =>
            rw [hok] at cq
            have HF : Hid (askAll ok [] (pgs rs) = false) := hidb (by
              obtain ⟨q, hq⟩ := HTA.out i hil
              rw [hq]
              refine askAll_prefix ok q _ [] ?_
              rw [← HTK.out, askAll_snoc, HA3.out, List.nil_append, hok]; rfl)
            clear hok
            go_wp2_with (go_at_call 27; (with_reducible refine cq.mono ?_); rintro e w3 ⟨rfl, hg3, hI3⟩)
            exact ⟨rfl, HE1.out _ _ HF.out hI3⟩
        · have hiL : Hid (i = L) := hidb (by omega)
          have HA5 : Hid (askAll ok [] (pgs (rs.take (j + 1))) = true) := hidb (by rw [← HTJ.out, ← hiL.out]; exact HA3.out)
          have HI5 : Hid (I (pgs (rs.take (j + 1))) wr) := hidb (by rw [← HTJ.out, ← hiL.out]; exact HI3.out)
          go_wp2
          go_roundw
          case rel => exact ⟨j + 1, by omega, by go_num, HA5, HI5, by omega⟩
          case measure => simp [intOf]; omega
    · have hall : Hid (rs.take j = rs) := hidb (List.take_of_length_le (by have := HL.out; omega))
      have P : Hid (AskEnd W0 ok I (pgs rs) (.returned (.tuple #[])) wr) := hidb (HE0.out wr (by have := HA.out; rwa [hall.out] at this) (by have := HI2.out; rwa [hall.out] at this))
      go_wp2
      exact bodyPost_ret (v := .tuple #[]) (by simp [results, Try.results23, go_sem]) rfl P.out

end Go.Proofs.Ytoghahldlnhpdaa
