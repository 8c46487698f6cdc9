/- What each function of the document's own answers to layer 6 (runs) returns. -/
import Derived.Test.YtcngcibiibchiaaGreatRows7
import Derived.Test.YtcngcibiibchiaaGreatPlain7
import Derived.WalkKit
import Derived.ProofKit
import Derived.WalkLawsBesides
import Derived.WalkSpells
import Derived.Deep.QuietTactic
import Derived.BigQuiet
import Derived.Laws.OwnMore
import Derived.Laws.StructEq
namespace Go.Proofs.YtcngcibiibchiaaGreat
open Go.RowKit
set_option linter.unusedVariables false

def bv (b : Bool) : Value := .bool b
theorem info_bool : (Tryz.prog.info? 4).map (fun i => (i.zero, i.size, i.bytes)) = some (some (.bool false), 1, 1) := by kernel_rfl
theorem Sl.bool_ {w : World} {B n : Nat} {A : Option Addr} {zs : List Bool} {j : Nat} (h : Sl w B A n (zs.map bv)) (hj : j < n) : ∃ b off x, A = some ⟨b, off, none⟩ ∧ zs[j]? = some x ∧ w.cell? ⟨b, off + j, none⟩ = some (.bool x) := by
  obtain ⟨b, off, u, e, _, hu, hcell⟩ := h.at_ hj
  rw [List.getElem?_map] at hu
  cases hx : zs[j]? with
  | none => rw [hx] at hu; cases hu
  | some x =>
    rw [hx] at hu
    obtain rfl : u = bv x := by simpa using hu.symm
    exact ⟨b, off, x, e, rfl, hcell⟩
/-- A row of bools that a call made. -/
def OwnBools (w : World) (l : List Bool) (e : Ending) (w' : World) : Prop := ∃ A c, e = .returned (.slice A l.length c) ∧ w'.ownsRow w.heap.size 4 1 (.slice A l.length c) l.length (l.map bv) ∧ Below w.heap.size w w'
/-- A row of bools that a call answers (the one that came in, or one of its own), and an error's number. -/
def ResBoolsNo (Aa : Option Addr) (w : World) (l : List Bool) (no : Int) (e : Ending) (w' : World) : Prop := ∃ A c, e = .returned (.tuple #[.slice A l.length c, .int .i64 no]) ∧ l.length ≤ c ∧ c ≤ 9223372036854775807 ∧ (A = none → c = 0) ∧ Sl w' w'.heap.size A l.length (l.map bv) ∧ Below w.heap.size w w' ∧ (A = Aa ∨ ∀ a, A = some a → w.heap.size ≤ a.block)

theorem made_bools (n : Nat) : (madeCells (Value.bool false).cells (n * 1)).toList = (List.replicate n false).map bv := by
  rw [Nat.mul_one]
  exact (toList_madeCells_one _ n).trans (by simp [bv])

theorem ref_fnew (w : World) : Calls Tryz.prog 25 #[] w (OwnBools w (List.replicate 1024 false)) := by
  obtain ⟨i0, hi, hz0, hz1, hz2⟩ := info_parts info_bool
  obtain ⟨n, hn⟩ : ∃ n, n = 1024 := ⟨_, rfl⟩
  rw [← hn]
  have HN := hidb hn
  clear hn
  have fin : ∀ w1, w1.ownsRow w.heap.size 4 1 (.slice (some ⟨w.heap.size, 0, none⟩) n n) n (madeCells (Value.bool false).cells (n * 1)).toList → Below w.heap.size w w1 → OwnBools w (List.replicate n false) (.returned (.slice (some ⟨w.heap.size, 0, none⟩) n n)) w1 := fun w1 h hb => by
    rw [made_bools] at h
    refine ⟨some ⟨w.heap.size, 0, none⟩, n, by rw [List.length_replicate], ?_, hb⟩
    rw [List.length_replicate]; exact h
  have FIN := hidb fin
  clear fin
  go_enter Tryz.func25, Tryz.ntmps25
  go_wp2_with (at_make; refine wpList_make_full w rfl _ _ 28 rfl w.heap.size 4 i0 (.bool false) 1 Tryz.underlying28 hi hz0 hz1 .i64 .i64 _ _ n rfl rfl (by have := HN.out; omega) (by have := HN.out; omega) (by have := HN.out; rw [hz2]; omega) (by have := HN.out; unfold maxLen; omega) (Nat.le_refl _) ?_; intro w1 hown hgrow)
  go_ret
  exact FIN.out w1 hown ((Below.refl _ _).grown hgrow (Nat.le_refl _) (fun k hk => by cases hk))

theorem ref_fmay (r : Int × Int) (w : World) (hr : in64 r.1 ∧ in64 r.2) :
    Calls Tryz.prog 41 #[.agg #[.int .i64 r.1, .int .i64 r.2]] w fun e w' => e = .returned (.bool (fMay r)) ∧ w' = w.alloc (.cells #[.int .i64 r.1, .int .i64 r.2] 41) := by
  obtain ⟨s, l⟩ := r
  obtain ⟨⟨s0, s1⟩, l0, l1⟩ := hr
  simp only at s0 s1 l0 l1 ⊢
  obtain ⟨b, hb⟩ : ∃ b, fMay (s, l) = b := ⟨_, rfl⟩
  have hw : (b = true ∧ 0 ≤ s ∧ s < 1024 ∧ 1 ≤ l ∧ l ≤ 1024 ∧ s + l ≤ 1024) ∨ (b = false ∧ s < 0) ∨ (b = false ∧ 0 ≤ s ∧ 1024 ≤ s) ∨ (b = false ∧ 0 ≤ s ∧ s < 1024 ∧ l < 1) ∨ (b = false ∧ 0 ≤ s ∧ s < 1024 ∧ 1 ≤ l ∧ 1024 < l) ∨ (b = false ∧ 0 ≤ s ∧ s < 1024 ∧ 1 ≤ l ∧ l ≤ 1024 ∧ 1024 < s + l) := by
    rw [← hb]
    by_cases h : 0 ≤ s ∧ s < 1024 ∧ 1 ≤ l ∧ l ≤ 1024 ∧ s + l ≤ 1024
    · exact Or.inl ⟨decide_eq_true h, h⟩
    · have e : fMay (s, l) = false := decide_eq_false h
      rw [e]
      right
      simp only [true_and]
      omega
  rw [hb]
  clear hb
  rcases hw with ⟨rfl, a1, a2, a3, a4, a5⟩ | ⟨rfl, a1⟩ | ⟨rfl, a1, a2⟩ | ⟨rfl, a1, a2, a3⟩ | ⟨rfl, a1, a2, a3, a4⟩ | ⟨rfl, a1, a2, a3, a4, a5⟩
  all_goals
    go_enter Tryz.func41, Tryz.ntmps41
    go_wp2
    go_ret
    refine ⟨?_, rfl⟩
    first | rfl | exact congrArg Ending.returned (congrArg Value.bool (decide_eq_false (by omega)))

set_option maxRecDepth 100000 in
set_option maxHeartbeats 1000000 in
theorem ref_flist (A : Option Addr) (n c : Nat) (f : List Bool) (w : World) (hs : Sl w w.heap.size A n (f.map bv)) (hn : n ≤ 65536) :
    Calls Tryz.prog 21 #[.slice A n c] w (OwnRuns w (fList f)) := by
  obtain ⟨i0, hi, hz0, hz1, hz2⟩ := info_parts info_run
  show Calls _ _ _ _ (OwnRuns w (xRuns (f.map b2i) 1))
  have lf : f.length = n := by have := hs.1; simpa using this
  obtain ⟨x, hxf⟩ : ∃ x, x = f.map b2i := ⟨_, rfl⟩
  obtain ⟨id, hid⟩ : ∃ id : Int, id = 1 := ⟨_, rfl⟩
  rw [← hxf, ← hid]
  have l1 : x.length = n := by rw [hxf, List.length_map, lf]
  have HXF : Hid (∀ j b, f[j]? = some b → x[j]? = some (b2i b)) := hidb (fun j b h => by rw [hxf, List.getElem?_map, h]; rfl)
  have HID := hidb hid
  clear hxf hid lf
  have L1 := hidb l1
  have HS := hidb hs
  have hxl := runsAt_length x id (x.length + 1) 0
  rw [l1] at hxl
  have HXL : Hid ((xRuns x id).length ≤ n) := hidb (by
    have e : xRuns x id = runsAt x id (n + 1) 0 := by rw [← l1]; rfl
    rw [e]; omega)
  clear hs l1 hxl
  go_enter Tryz.func21, Tryz.ntmps21
  go_wp2
  go_loopw [3, 4] (fun v k wr => ∃ (p : Nat) (d : List (Int × Int)), p ≤ n + 1 ∧ k = .int .i64 p ∧ Hid (d ++ runsFrom x id p = xRuns x id) ∧ wr.ownsRow w.heap.size 41 2 v d.length (rcells d) ∧ Below w.heap.size w wr) (fun _ k _ => (n + 1 - intOf k).toNat)
  case atStart => exact ⟨0, [], by omega, rfl, hidb rfl, World.ownsRow_made w #[] 0 (Nat.le_refl _) (by unfold maxLen; omega) rfl, (Below.refl _ _).alloc (Nat.le_refl _) _⟩
  case round =>
    obtain ⟨p, d, hp, rfl, HD, hown, hbel⟩ := hrel
    by_cases hlt : p < n
    · have hbsz := hbel.size
      have HS2 := hidb (HS.out.below hbel)
      have HOWN := hidb hown
      have HBEL := hidb hbel
      clear hown hbel
      have hrl := runLen_le x id p
      rw [L1.out] at hrl
      obtain ⟨R, hR⟩ : ∃ R, runLen x id p = R := ⟨_, rfl⟩
      rw [hR] at hrl
      have HR := hidb hR
      clear hR
      obtain ⟨wo, rfl⟩ : ∃ wo : World, wo = wr := ⟨_, rfl⟩
      go_wp2
      go_loop [5] (fun k => ∃ m : Nat, m ≤ R ∧ k = .int .i64 m) (fun k => (n - intOf k).toNat)
      case atStart => exact ⟨0, by omega, rfl⟩
      case round =>
        obtain ⟨m, hm, rfl⟩ := hrel
        by_cases hmr : m < R
        · obtain ⟨b, off, y, rfl, hy, hc⟩ := HS2.out.bool_ (j := p + m) (by omega)
          have hyid : y = true := by
            have h := (runLen_more x id p m _ (by rw [HR.out]; omega) (HXF.out _ _ hy)).1 (by rw [HR.out]; exact hmr)
            rw [HID.out] at h
            exact (b2i_one y).1 h
          subst hyid
          have hb1 : (p : Int) + (m : Int) < (n : Int) := by omega
          have hb0 : (0 : Int) ≤ (p : Int) + (m : Int) := by omega
          have hbn : ((p : Int) + (m : Int)).toNat = p + m := by omega
          clear hy
          go_wp2
          go_round
          case rel => exact ⟨m + 1, by omega, by go_num⟩
          case measure => simp [intOf]; omega
        · have hmR : Hid (m = R) := hidb (by omega)
          have hway : (n : Int) ≤ (p : Int) + (m : Int) ∨ ∃ b off y, A = some ⟨b, off, none⟩ ∧ (p : Int) + (m : Int) < (n : Int) ∧ wo.cell? ⟨b, off + (p + m), none⟩ = some (.bool y) ∧ y = false := by
            by_cases hpm : p + m < n
            · right
              obtain ⟨b, off, y, e, hy, hc⟩ := HS2.out.bool_ (j := p + m) hpm
              refine ⟨b, off, y, e, by omega, hc, ?_⟩
              have := runLen_more x id p m _ (by rw [HR.out]; omega) (HXF.out _ _ hy)
              rw [HR.out, HID.out, b2i_one] at this
              cases y with
              | true => exact absurd (this.2 rfl) hmr
              | false => rfl
            · left; omega
          have hb0 : (0 : Int) ≤ (p : Int) + (m : Int) := by omega
          have hbn : ((p : Int) + (m : Int)).toNat = p + m := by omega
          clear hmr
          by_cases hm0 : m = 0
          · have HD2 : Hid (d ++ runsFrom x id (p + 1) = xRuns x id) := hidb (by rw [← runsFrom_none x id p (by rw [L1.out]; exact hlt) (by rw [HR.out, ← hmR.out]; exact hm0)]; exact HD.out)
            have hway2 : ∃ b off y, A = some ⟨b, off, none⟩ ∧ wo.cell? ⟨b, off + p, none⟩ = some (.bool y) ∧ y = false := by
              rcases hway with hw1 | ⟨b, off, y, e, _, hc, hyid⟩
              · omega
              · refine ⟨b, off, y, e, ?_, hyid⟩
                rw [hm0] at hc; exact hc
            obtain ⟨b, off, y, rfl, hc, rfl⟩ := hway2
            subst hm0
            have hp0 : (0 : Int) ≤ (p : Int) := by omega
            clear hway hb0 hbn
            go_wp2
            go_roundw
            case rel => exact ⟨p + 1, d, by omega, by go_num, HD2, HOWN.out, HBEL.out⟩
            case measure => simp [intOf]; omega
          · have HD2 : Hid ((d ++ [((p : Int), (m : Int))]) ++ runsFrom x id (p + m + 1) = xRuns x id) := hidb (by
              rw [← HD.out, runsFrom_some x id p (by rw [L1.out]; exact hlt) (by have := hmR.out; rw [HR.out]; omega), HR.out, ← hmR.out, List.append_assoc]; rfl)
            have hdl : d.length ≤ n := by
              have := congrArg List.length HD.out
              have h2 := HXL.out
              rw [List.length_append] at this; omega
            have hown := HOWN.out
            rcases hway with hw1 | ⟨b, off, y, rfl, hw1, hc, rfl⟩
            · go_wp2_with (at_builtin; refine wpList_append_two wo rfl _ _ 54 rfl w.heap.size 41 i0 (.agg #[.int .i64 0, .int .i64 0]) 16 Tryz.underlying54 hi hz0 hz1 hz2 rfl _ _ _ rfl (by exact hown) hbsz (.int .i64 (p : Int)) (.int .i64 (m : Int)) rfl rfl _ rfl (by unfold maxLen; omega) (by omega) ?_; intro v1 w1 hown1 hb1)
              have HO : Hid (w1.ownsRow w.heap.size 41 2 v1 (d ++ [((p : Int), (m : Int))]).length (rcells (d ++ [((p : Int), (m : Int))]))) := hidb (by rw [List.length_append, rcells_append]; exact hown1)
              have HB1 := hidb hb1
              clear hown1 hb1 hown
              go_roundw
              case rel => exact ⟨p + m + 1, d ++ [((p : Int), (m : Int))], by omega, by go_num, HD2, HO.out, HBEL.out.trans HB1.out⟩
              case measure => simp [intOf]; omega
            · go_wp2_with (at_builtin; refine wpList_append_two wo rfl _ _ 54 rfl w.heap.size 41 i0 (.agg #[.int .i64 0, .int .i64 0]) 16 Tryz.underlying54 hi hz0 hz1 hz2 rfl _ _ _ rfl (by exact hown) hbsz (.int .i64 (p : Int)) (.int .i64 (m : Int)) rfl rfl _ rfl (by unfold maxLen; omega) (by omega) ?_; intro v1 w1 hown1 hb1)
              have HO : Hid (w1.ownsRow w.heap.size 41 2 v1 (d ++ [((p : Int), (m : Int))]).length (rcells (d ++ [((p : Int), (m : Int))]))) := hidb (by rw [List.length_append, rcells_append]; exact hown1)
              have HB1 := hidb hb1
              clear hown1 hb1 hown
              go_roundw
              case rel => exact ⟨p + m + 1, d ++ [((p : Int), (m : Int))], by omega, by go_num, HD2, HO.out, HBEL.out.trans HB1.out⟩
              case measure => simp [intOf]; omega
    · have hxp : x.length ≤ p := by have := L1.out; omega
      have P : Hid (OwnRuns w (xRuns x id) (.returned u3) wr) := hidb (by
        have hd := HD.out
        rw [runsFrom_end x id p hxp, List.append_nil] at hd
        rw [← hd]
        obtain ⟨A', c', rfl⟩ := own_form2 hown
        exact ⟨A', c', rfl, hown, hbel⟩)
      clear hown hbel
      go_wp2
      go_ret
      exact P.out

/-- A run and whether there is one. -/
def RunIs (w : World) (r : Option (Int × Int)) (e : Ending) (w' : World) : Prop := e = .returned (.tuple #[.agg #[.int .i64 (r.getD (0, 0)).1, .int .i64 (r.getD (0, 0)).2], .bool r.isSome]) ∧ Below w.heap.size w w'

end Go.Proofs.YtcngcibiibchiaaGreat
