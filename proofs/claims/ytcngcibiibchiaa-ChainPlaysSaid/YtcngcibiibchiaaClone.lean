/- slices.Clone of a row of words: a copy of the call's own. -/
import Derived.Test.YtcngcibiibchiaaRowWords
import Derived.Lib.SliceRun
namespace Go.Proofs.Ytcngcibiibchiaa
open Go.RowKit
set_option linter.unusedVariables false

theorem wclone_nil (w : World) (A : Option Addr) (n c : Nat) : (binOp .eql 30 (.slice A n c) (.slice none 0 0)).run Try.prog w = .ok (.bool A.isNone) w := Lib.run_eql_slice_nil w 30 31 A n c 0 0 (by kernel_rfl)

theorem code_wclone (A : Option Addr) (n c : Nat) (ws : List Nat) (w : World) (hs : Sl w w.heap.size A n (ws.map wv)) (hn : n ≤ 65536) (hA : A = none → c = 0) :
    Calls Try.prog 41 #[.slice A n c] w (OwnWords w ws) := by
  obtain ⟨i0, hi, hz0, hz1, hz2⟩ := info_parts info_u64
  have l1 : ws.length = n := by have := hs.1; simpa using this
  cases A with
  | none =>
    obtain rfl : n = 0 := by
      refine Nat.eq_zero_of_not_pos fun h => ?_
      obtain ⟨b, off, e, _⟩ := hs.2 h
      cases e
    obtain rfl : c = 0 := hA rfl
    obtain rfl : ws = [] := List.eq_nil_of_length_eq_zero l1
    clear hs l1
    have q := wclone_nil w none 0 0
    go_enter Try.func41, Try.ntmps41
    go_wp2
    go_ret
    exact ⟨none, 0, rfl, World.ownsRow_nil _ _ _ _, Below.refl _ _⟩
  | some p =>
    have HS := hidb hs
    have L1 := hidb l1
    clear hs l1
    have q := wclone_nil w (some p) n c
    have hnews : Hid (∀ j u, (ws.map wv)[j]? = some u → (w.alloc (.cells #[] 31)).cell? (p.add j) = some u) := hidb (fun j u hu => by
      have hj : j < n := by
        have := (List.getElem?_eq_some_iff.1 hu).1
        rw [List.length_map, L1.out] at this; exact this
      obtain ⟨b, off, e, hb, hcells⟩ := HS.out.2 (by omega)
      obtain rfl : p = ⟨b, off, none⟩ := by injection e
      rw [Go.WideShapes.add_plain, World.cell?_alloc_lt w _ _ hb, hcells j hj, hu])
    have hone : Hid (∀ u ∈ ws.map wv, u.oneCell' = true) := hidb (fun u hu => by
      obtain ⟨x, _, rfl⟩ := List.mem_map.1 hu; rfl)
    have hown0 := hidb (ownsRow_empty w 31)
    go_enter Try.func41, Try.ntmps41
    go_wp2_with (at_builtin; refine wpList_append_own (w.alloc (.cells #[] 31)) rfl _ _ 30 rfl w.heap.size 31 i0 (.int .u64 0) 1 8 Try.underlying30 hi hz0 hz1 hz2 rfl (by decide) _ 0 [] rfl (by exact hown0.out) p n c (ws.map wv) rfl (by rw [List.length_map, L1.out, Nat.mul_one]) (by exact hnews.out) (by exact hone.out) (by unfold maxLen; omega) (by omega) (by simp) ?_; intro v1 w1 hown1 hg1 _)
    rw [Nat.zero_add, List.nil_append] at hown1
    have P : Hid (OwnWords w ws (.returned v1) w1) := hidb (by
      obtain ⟨A', c', rfl⟩ := own_form hown1
      rw [← L1.out] at hown1 ⊢
      refine ⟨A', c', rfl, hown1, ?_⟩
      exact ((Below.refl _ _).alloc (Nat.le_refl _) _).grown hg1 (by simp) (fun k hk => (hown0.out.lt k hk).1))
    clear hown1 hg1
    go_wp2
    go_ret
    exact P.out

theorem code_wclone_none (w : World) :
    Calls Try.prog 41 #[.slice none 0 0] w fun e w' => e = .returned (.slice none 0 0) ∧ w = w' := by
  have q := wclone_nil w none 0 0
  go_enter Try.func41, Try.ntmps41
  go_wp2
  go_ret
  exact ⟨rfl, rfl⟩

end Go.Proofs.Ytcngcibiibchiaa
