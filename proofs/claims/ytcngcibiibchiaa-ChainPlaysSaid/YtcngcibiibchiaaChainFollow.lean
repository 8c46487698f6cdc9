/- What follow and List of layer 8 (chain) return. -/
import Derived.Test.YtcngcibiibchiaaChainMap
import Derived.Test.YtcngcibiibchiaaChainGo
import Derived.Test.YtcngcibiibchiaaArenaCode4
import Derived.Test.YtcngcibiibchiaaIntsRef
namespace Go.Proofs.Ytcngcibiibchiaa
open Go.RowKit Go.Maps
set_option linter.unusedVariables false

/-- An arena in whatever world. -/
structure FollowSt (w W : World) (len : Int) (N : Nat) (out : List Int) (j : Nat) (A : Option Addr) (c : Nat) (D : DataW Unit) : Prop where
  row : W.ownsRow (w.heap.size + 1 + 1) 3 1 (.slice A j c) j (out.map iv)
  nm : W.ownsMap Try.prog 3 boolR (w.heap.size + 1) j D
  ni : NIs D out
  b1 : W.cell? ⟨w.heap.size, 1, none⟩ = some (.int .i64 len)
  bel : Below w.heap.size w W
  le : w.heap.size + 1 + 1 ≤ W.heap.size
  jl : out.length = j
  nd : out.Nodup
  rg : ∀ x ∈ out, 0 ≤ x ∧ x < (N : Int)
section
variable {w W w2 w3 w4 : World} {len : Int} {N : Nat} {out : List Int} {j c c' : Nat} {A A' : Option Addr} {D D' : DataW Unit} {a : Int}
theorem FollowSt.below (k : FollowSt w W len N out j A c D) (hb : Below W.heap.size W w2) : FollowSt w w2 len N out j A c D :=
  ⟨own_below k.row hb, ownsMap_block k.nm (hb.block _ k.nm.lt), k.ni, (hb.cell (lt_of_cell k.b1)).trans k.b1, k.bel.trans (hb.mono k.bel.size), Nat.le_trans k.le hb.size, k.jl, k.nd, k.rg⟩
theorem FollowSt.row3 (k : FollowSt w W len N out j A c D) (hg3 : W.grownBy w3 (some (w.heap.size + 1))) : w3.ownsRow (w.heap.size + 1 + 1) 3 1 (.slice A j c) j (out.map iv) :=
  own_past k.row (by omega) hg3
theorem FollowSt.push (k : FollowSt w W len N out j A c D) (hn : out.contains a = false) (ha : 0 ≤ a ∧ a < (N : Int)) (hg3 : W.grownBy w3 (some (w.heap.size + 1)))
    (hm3 : w3.ownsMap Try.prog 3 boolR (w.heap.size + 1) (j + 1) D') (hn3 : NIs D' (out ++ [a])) (hr4 : w4.ownsRow (w.heap.size + 1 + 1) 3 1 (.slice A' (j + 1) c') (j + 1) (out.map iv ++ [iv a])) (hb4 : Below (w.heap.size + 1 + 1) w3 w4) : FollowSt w w4 len N (out ++ [a]) (j + 1) A' c' D' := by
  have hs := hg3.size
  have hl := k.le
  have h4 := hb4.size
  refine ⟨by rw [List.map_append]; exact hr4, ownsMap_block hm3 (hb4.block _ (by omega)), hn3, ?_, ?_, by omega, by rw [List.length_append, k.jl]; rfl, ?_, ?_⟩
  · have h1 : w3.heap[w.heap.size]? = W.heap[w.heap.size]? := hg3.block _ (by omega) (fun e => by injection e with e; omega)
    exact (World.cell?_of_block (w := w3) (a := ⟨w.heap.size, 1, none⟩) (hb4.block w.heap.size (by omega))).trans ((World.cell?_of_block (w := W) (a := ⟨w.heap.size, 1, none⟩) h1).trans k.b1)
  · have h1 : Below w.heap.size w w3 := k.bel.grown hg3 k.bel.size (fun b e => by injection e with e; omega)
    exact h1.trans (hb4.mono (by omega))
  · refine List.nodup_append.2 ⟨k.nd, by simp, fun x hx y hy e => ?_⟩
    obtain rfl := List.mem_singleton.1 hy
    subst e
    have : out.contains x = true := by simpa using hx
    rw [hn] at this; cases this
  · intro x hx
    rcases List.mem_append.1 hx with hx | hx
    · exact k.rg x hx
    · obtain rfl := List.mem_singleton.1 hx; exact ha
end
/-- A row of addresses that a call answers, and whether they are a chain's. -/
def ResFollow (w : World) (r : Option (List Int)) (e : Ending) (w' : World) : Prop :=
  ∃ A n c out, e = .returned (.tuple #[.slice A n c, .bool r.isSome]) ∧ (∀ l, r = some l → out = l) ∧ Sl w' w'.heap.size A n (out.map iv) ∧ (A = none → n = 0) ∧ Below w.heap.size w w' ∧ ∀ a, A = some a → w.heap.size ≤ a.block
theorem asInt_wrap (x : Nat) (hx : x < 18446744073709551616) : IntKind.i64.wrap (x : Int) = asInt x := by
  unfold asInt
  split
  · exact IntWalk.i64_in _ (by omega)
  · rw [IntKind.wrap_i64]; omega

set_option maxRecDepth 100000 in
theorem code_cfollow {p g n : Nat} {ws : List Nat} {w : World} {B : Nat} (ha : Ar w B p g n ws) (h0 len : Int) (hh : in64 h0) (hl : in64 len) (hw : Wide ws) :
    Calls Try.prog 37 #[.pointer (some ⟨p, 0, none⟩), .agg #[.int .i64 h0, .int .i64 len]] w (ResFollow w (cList ws (h0, len))) := by
  obtain ⟨i0, hi, hz0, hz1, hz2⟩ := info_parts info_int
  have l1 : ws.length = n := ha.hlen
  have hn := ha.small
  rw [cList_of hw (by omega)]
  obtain ⟨R, hR⟩ : ∃ R, fList ws h0 = R := ⟨_, rfl⟩
  rw [hR]
  have HR : Hid (fGo ws (n + 1) h0 [] = R) := hidb (by rw [← hR, ← l1]; rfl)
  have HA : Hid (∀ W, Below w.heap.size w W → Ar W B p g n ws) := hidb (fun W hb => ha.below hb (Nat.le_refl _))
  have HW := hidb hw
  have L1 := hidb l1
  have hmk := @run_makeMap Try.prog
  have hl0 := hl.1
  have hl1 := hl.2
  have HNO : Hid (R = none → ∀ W, Below w.heap.size w W → ResFollow w (R.filter (fun l => decide ((l.length : Int) = len))) (.returned (.tuple #[.slice none 0 0, .bool false])) W) := hidb (fun e W hW => by
    subst e
    exact ⟨none, 0, 0, [], rfl, (fun l h => by cases h), Sl.nil_, fun _ => rfl, hW, fun a e => by cases e⟩)
  clear ha hR hw l1 hl
  go_enter Try.func37, Try.ntmps37
  go_wp2
  go_loopw [6, 8] (fun ov hv wr => ∃ (h : Int) (out : List Int) (A2 : Option Addr) (m c2 : Nat) (D : DataW Unit), hv = .int .i64 h ∧ ov = .slice A2 m c2 ∧ -9223372036854775808 ≤ h ∧ h ≤ 9223372036854775807 ∧ m ≤ n ∧ Hid (FollowSt w wr len ws.length out m A2 c2 D) ∧ Hid (fGo ws (n + 1 - m) h out = R)) (fun ov _ _ => n - lenOf ov)
  case atStart =>
    refine ⟨h0, [], none, 0, 0, .map [], rfl, rfl, hh.1, hh.2, Nat.zero_le _, hidb ⟨World.ownsRow_nil _ _ _ _, ?_, nis_nil, ?_, ((Below.refl _ _).alloc (Nat.le_refl _) _).alloc (by simp) _, by simp, rfl, List.nodup_nil, fun x hx => by cases hx⟩, hidb HR.out⟩
    · have := World.ownsMap_made (w.alloc (.cells #[.int .i64 h0, .int .i64 len] 23)) Try.prog 3 boolR
      simpa using this
    · rw [World.cell?_alloc_past _ _ _ (by simp), World.cell?_alloc_at _ _ _ _ rfl]; rfl
  case round =>
    obtain ⟨h, out, A2, m, c2, D, rfl, rfl, hh0, hh1, hm, HS, HG⟩ := hrel
    by_cases g0 : h = 0
    · subst g0
      have q1 := HS.out.b1
      obtain ⟨b, hb⟩ : ∃ b, ((m : Int) == len) = b := ⟨_, rfl⟩
      have P : Hid (∀ W, Below wr.heap.size wr W → ResFollow w (R.filter (fun l => decide ((l.length : Int) = len))) (.returned (.tuple #[.slice A2 m c2, .bool b])) W) := hidb (fun W hW => by
        have h1 := HG.out
        rw [show n + 1 - m = (n - m) + 1 by omega, fGo_zero] at h1
        have hs := HS.out.below hW
        rw [← h1]
        refine ⟨A2, m, c2, out, ?_, fun l e => ?_, Sl.of_own hs.row, fun e => ?_, hs.bel, fun a e => by
          subst e
          have := (hs.row.lt a.block rfl).1
          omega⟩
        · rw [← hb, ← hs.jl]
          by_cases e : (out.length : Int) = len
          · simp [Option.filter, e]
          · simp [Option.filter, e]
        · by_cases e2 : (out.length : Int) = len
          · simp [Option.filter, e2] at e; exact e
          · simp [Option.filter, e2] at e
        · subst e
          rcases hs.row.2 with ⟨h1, h2⟩ | ⟨g1, cap, cur, h1, _⟩
          · exact h2
          · cases h1)
      go_wp2
      go_quiet (fail)
      go_wp2
      go_ret2
      first | exact P.out _ (Below.refl _ _).drew | exact P.out _ (belowN (Below.refl _ _) _)
    · have hg : decide (h ≠ 0) = true := decide_eq_true g0
      have hnz : (h == 0) = false := by simpa using g0
      have BAD : Hid (h < 0 ∨ (ws.length : Int) < h ∨ (h - 1) ∈ out → R = none) := hidb (fun hb => by
        rw [← HG.out, show n + 1 - m = (n - m) + 1 by omega, fGo_bad _ _ _ _ g0 hb])
      have har := HA.out _ HS.out.bel
      by_cases g1 : h < 0 ∨ (n : Int) < h
      · have HE : Hid (R = none) := hidb (BAD.out (by rw [L1.out]; rcases g1 with g | g; exact Or.inl g; exact Or.inr (Or.inl g)))
        obtain ⟨a, ha⟩ : ∃ a, IntKind.i64.wrap (h - 1) = a := ⟨_, rfl⟩
        have ha64 : in64 a ∧ aIn n a 1 = false := by
          rw [IntKind.wrap_i64] at ha
          unfold in64 aIn
          refine ⟨by omega, decide_eq_false ?_⟩
          omega
        have cl := code_aload_no (.pointer (some ⟨p, 0, none⟩)) n a wr hn (code_awords p _ _ _ _ (har.alloc _).cell) ha64.1 ha64.2
        clear har ha64 g1
        go_wp2_with (first | (go_at_call 24; (with_reducible refine cl.mono ?_); rintro e w2 ⟨rfl, hb2⟩))
        go_ret2
        exact HNO.out HE.out _ (HS.out.bel.trans (hb2.mono HS.out.bel.size))
      · obtain ⟨a, hha⟩ : ∃ a : Nat, h - 1 = (a : Int) := ⟨(h - 1).toNat, by omega⟩
        have hw1 : IntKind.i64.wrap (h - 1) = (a : Int) := by rw [hha]; exact IntWalk.i64_in _ (by omega)
        have han : a < n := by omega
        obtain ⟨x, hx⟩ : ∃ x, ws[a]? = some x := ⟨_, List.getElem?_eq_getElem (by have := L1.out; omega)⟩
        have hx64 := HW.out x (List.mem_of_getElem? hx)
        have hwx := asInt_wrap x hx64
        have hxr : -9223372036854775808 ≤ asInt x ∧ asInt x ≤ 9223372036854775807 := by unfold asInt; split <;> omega
        have cl := code_aload a x har hx
        have hmn : out.length ≤ n := by
          have := nodup_le ws.length out HS.out.nd HS.out.rg
          have := L1.out
          omega
        have hjl := HS.out.jl
        have HAG : Hid (∀ w2, Below wr.heap.size wr w2 → Calls Try.prog 30 #[.map (some (w.heap.size + 1)), .int .i64 (a : Int)] w2 fun e w' => e = .returned (.bool (out.contains (a : Int))) ∧ (∃ D', w'.ownsMap Try.prog 3 boolR (w.heap.size + 1) (m + 1) D' ∧ NIs D' (out ++ [(a : Int)])) ∧ w2.grownBy w' (some (w.heap.size + 1))) := hidb (fun w2 hb2 => code_again (HS.out.below hb2).nm HS.out.ni (by omega) (a : Int) (by unfold in64; omega))
        obtain ⟨b, hb⟩ : ∃ b, out.contains (a : Int) = b := ⟨_, rfl⟩
        rw [hb] at HAG
        have HX := hidb hx
        have HXR := hidb hxr
        have HB := hidb hb
        have HAN := hidb han
        have HHA := hidb hha
        clear hb hx hx64 hxr hmn hjl har g1 hha
        cases b with
        | true =>
          have HE : Hid (R = none) := hidb (BAD.out (Or.inr (Or.inr (by rw [HHA.out]; simpa using HB.out))))
          go_wp2_with (first
            | (go_at_call 24; (with_reducible refine cl.mono ?_); rintro e w2 ⟨rfl, hb2⟩)
            | (go_at_call 30; (with_reducible refine (HAG.out _ hb2).mono ?_); rintro e w3 ⟨rfl, _, hg3⟩))
          go_ret2
          refine HNO.out HE.out _ ?_
          have hs := (HS.out.below hb2).bel
          exact hs.grown hg3 hs.size (fun b e => by injection e with e; omega)
        | false =>
          have HG2 : Hid (fGo ws (n + 1 - (m + 1)) (asInt x) (out ++ [(a : Int)]) = R) := hidb (by
            rw [← HG.out, show n + 1 - m = (n - m) + 1 by omega, fGo_next _ _ _ _ x g0 (by
              have hha := HHA.out
              rw [L1.out, hha]
              have := HAN.out
              have hnb : ¬ (a : Int) ∈ out := by simpa using HB.out
              simp only [not_or]
              exact ⟨by omega, by omega, hnb⟩) (by rw [HHA.out]; exact HX.out), HHA.out]
            congr 1; omega)
          go_wp2_with (first
            | (go_at_call 24; (with_reducible refine cl.mono ?_); rintro e w2 ⟨rfl, hb2⟩)
            | (go_at_call 30; (with_reducible refine (HAG.out _ hb2).mono ?_); rintro e w3 ⟨rfl, ⟨D3, hm3, hn3⟩, hg3⟩; have HB2 := hidb hb2; have HR3 := hidb ((HS.out.below hb2).row3 hg3); have HZ3 : Hid (w.heap.size + 1 + 1 ≤ w3.heap.size) := hidb (by have := (HS.out.below hb2).le; have := hg3.size; omega); have HM3 := hidb hm3; have HN3 := hidb hn3; have HG3 := hidb hg3; clear hm3 hn3 hg3 hb2)
            | (at_builtin; refine wpList_append_one w3 rfl _ _ 32 rfl (w.heap.size + 1 + 1) 3 i0 (.int .i64 0) 8 Try.underlying32 hi hz0 hz1 hz2 rfl (.slice A2 m c2) m (out.map iv) rfl HR3.out HZ3.out (.int .i64 (a : Int)) rfl _ rfl (by unfold maxLen; omega) (by omega) ?_; intro v1 w4 hown4 hb4; obtain ⟨A4, c4, rfl⟩ := own_form hown4; have HO4 := hidb hown4; have HB4 := hidb hb4; clear hown4 hb4))
          have HE := hidb ((HS.out.below HB2.out).push HB.out (by have := HAN.out; have := L1.out; omega) HG3.out HM3.out HN3.out HO4.out HB4.out)
          have hm1 : m + 1 ≤ n := by
            have h1 := nodup_le ws.length _ HE.out.nd HE.out.rg
            have h2 := HE.out.jl
            have h3 := L1.out
            omega
          go_roundw
          case rel => exact ⟨asInt x, out ++ [(a : Int)], _, m + 1, _, _, by go_num, rfl, HXR.out.1, HXR.out.2, hm1, HE, HG2⟩
          case measure => simp [lenOf]; omega

/-- List: the addresses, or ErrState. -/
def ResList (w : World) (r : Option (List Int)) (e : Ending) (w' : World) : Prop :=
  ∃ A n c out, e = .returned (.tuple #[.slice A n c, .int .i64 (if r.isSome then 0 else 9)]) ∧ (∀ l, r = some l → out = l) ∧ (r = none → n = 0) ∧ Sl w' w'.heap.size A n (out.map iv) ∧ (A = none → n = 0) ∧ Below w.heap.size w w' ∧ ∀ a, A = some a → w.heap.size ≤ a.block
theorem code_clist {p g n : Nat} {ws : List Nat} {w : World} {B : Nat} (ha : Ar w B p g n ws) (h0 len : Int) (hh : in64 h0) (hl : in64 len) (hw : Wide ws) :
    Calls Try.prog 18 #[.pointer (some ⟨p, 0, none⟩), .agg #[.int .i64 h0, .int .i64 len]] w (ResList w (cList ws (h0, len))) := by
  have hb0 : Below w.heap.size w (w.alloc (.cells #[.int .i64 h0, .int .i64 len] 23)) := (Below.refl _ _).alloc (Nat.le_refl _) _
  have cf := code_cfollow (ha.alloc (.cells #[.int .i64 h0, .int .i64 len] 23)) h0 len hh hl hw
  obtain ⟨R, hR⟩ : ∃ R, cList ws (h0, len) = R := ⟨_, rfl⟩
  rw [hR] at cf ⊢
  unfold ResFollow at cf
  have HB0 := hidb hb0
  clear ha hR hh hl hw hb0
  cases R with
  | none =>
    go_enter Try.func18, Try.ntmps18
    go_wp2_with (first | (go_at_call 37; (with_reducible refine cf.mono ?_); rintro e w2 ⟨A, m, c, out, rfl, h1, h2, h3, hb2, h4⟩))
    go_ret2
    exact ⟨none, 0, 0, [], rfl, (fun l h => by cases h), (fun _ => rfl), Sl.nil_, fun _ => rfl, HB0.out.trans (hb2.mono HB0.out.size), fun a e => by cases e⟩
  | some l =>
    go_enter Try.func18, Try.ntmps18
    go_wp2_with (first | (go_at_call 37; (with_reducible refine cf.mono ?_); rintro e w2 ⟨A, m, c, out, rfl, h1, h2, h3, hb2, h4⟩))
    go_ret2
    exact ⟨A, m, c, out, rfl, h1, (fun h => by cases h), h2, h3, HB0.out.trans (hb2.mono HB0.out.size), fun a e => Nat.le_trans HB0.out.size (h4 a e)⟩

/-- Right's closure: whether a chain isn't right. -/
theorem code_cright1 {p g n tb : Nat} {ws : List Nat} {w : World} {B : Nat} (ha : Ar w B p g n ws) (hc : w.cell? ⟨tb, 0, none⟩ = some (.pointer (some ⟨p, 0, none⟩))) (h0 len : Int) (hh : in64 h0) (hl : in64 len) (hw : Wide ws) :
    Calls Try.prog 39 #[.agg #[.int .i64 h0, .int .i64 len], .pointer (some ⟨tb, 0, none⟩)] w fun e w' => e = .returned (.bool (!(cList ws (h0, len)).isSome)) ∧ Below w.heap.size w w' := by
  have hb0 : Below w.heap.size w (w.alloc (.cells #[.int .i64 h0, .int .i64 len] 23)) := (Below.refl _ _).alloc (Nat.le_refl _) _
  have hc2 := (hb0.cell (lt_of_cell hc)).trans hc
  have cf := code_cfollow (ha.alloc (.cells #[.int .i64 h0, .int .i64 len] 23)) h0 len hh hl hw
  obtain ⟨R, hR⟩ : ∃ R, cList ws (h0, len) = R := ⟨_, rfl⟩
  rw [hR] at cf ⊢
  unfold ResFollow at cf
  have HB0 := hidb hb0
  clear ha hR hh hl hw hb0 hc
  cases R with
  | none =>
    go_enter Try.func39, Try.ntmps39
    go_wp2_with (first | (go_at_call 37; (with_reducible refine cf.mono ?_); rintro e w2 ⟨A, m, c, out, rfl, h1, h2, h3, hb2, h4⟩))
    go_ret
    exact ⟨rfl, HB0.out.trans (hb2.mono HB0.out.size)⟩
  | some l =>
    go_enter Try.func39, Try.ntmps39
    go_wp2_with (first | (go_at_call 37; (with_reducible refine cf.mono ?_); rintro e w2 ⟨A, m, c, out, rfl, h1, h2, h3, hb2, h4⟩))
    go_ret
    exact ⟨rfl, HB0.out.trans (hb2.mono HB0.out.size)⟩

end Go.Proofs.Ytcngcibiibchiaa
