/- Layer 10: numbers of spans; slices.IndexFunc, ContainsFunc and DeleteFunc at spans, whatever the closure. -/
import Derived.Test.YtonmkanppapjjaaGreatLargeFns
import Derived.Test.YtonmkanppapjjaaGreatNamedMap
import Derived.Deep.MidRow
import Derived.Lib.SlMapFilter
import Derived.WalkKit
namespace Go.Proofs.YtonmkanppapjjaaGreat
open Go.RowKit Go.Maps
set_option linter.unusedVariables false

/-- append of one element that the call has just laid, where its block's number is spelled otherwise. -/
theorem wpList_append_oneB {P : Program} (w : World) {ops : Array Oper} {rest : List Oper} {o : Oper} {a : Act} {Q : Exit → Act → World → Prop} (b : Nat) (hb : b = w.heap.size) (hgd : o.guard = none) (s x : Operand) (t : TypeId)
    (ho : o.op = .call { callee := .builtin .append, args := #[s, x], argTypes := #[t, t] })
    (base : Nat) (e : TypeId) (i : TypeInfo) (z : Value) (bytes : Nat) (ht : P.underlying t = some (.slice e)) (hi : P.info? e = some i) (hz : i.zero = some z)
    (hsize : i.size = 1) (hby : i.bytes = bytes) (hzs : z.cells.size = 1)
    (v : Value) (n : Nat) (xs : List Value) (hs : a.eval s = v) (hown : w.ownsRow base e 1 v n xs) (hbase : base ≤ w.heap.size)
    (u : Value) (hu : u.oneCell' = true) (te : TypeId) (hx : a.eval x = .slice (some ⟨b, 0, none⟩) 1 1) (h63 : n + 1 ≤ maxLen) (hbytes : (n + 1) * bytes ≤ 140737488355328)
    (h : ∀ v' w', w'.ownsRow base e 1 v' (n + 1) (xs ++ [u]) → Below base w w' → wpList P ops Q rest (a.put o.dst v') w') : wpList P ops Q (o :: rest) a (w.alloc (.cells #[u] te)) := by
  subst hb
  exact wpList_append_one w hgd s x t ho base e i z bytes ht hi hz hsize hby hzs v n xs hs hown hbase u hu te hx h63 hbytes h
set_option maxRecDepth 100000 in
theorem code_lnumbers (A : Option Addr) (m c : Nat) (ds : List Spn) (w : World) (hs : Sn w w.heap.size A m ds) (hm : m ≤ 65536) :
    Calls Tryz.prog 92 #[.slice A m c] w (OwnInts w (ds.map (·.1))) := by
  obtain ⟨i0, hi, hz0, hz1, hz2⟩ := info_parts info_int
  have HS := hidb hs
  have HL : Hid (ds.length = m) := hidb hs.1
  clear hs
  go_enter Tryz.func92, Tryz.ntmps92
  go_wp2
  go_loopw [3, 5, 8] (fun v _ k wr => ∃ (j : Nat), j ≤ m ∧ k = .int .i64 j ∧ wr.ownsRow w.heap.size 3 1 v j ((ds.take j).map fun s => iv s.1) ∧ Below w.heap.size w wr) (fun _ _ k _ => (m - intOf k).toNat)
  case atStart => exact ⟨0, Nat.zero_le _, rfl, World.ownsRow_nil _ _ _ _, Below.refl _ _⟩
  case round =>
    obtain ⟨j, hj, rfl, hown, hbel⟩ := hrel
    by_cases hlt : j < m
    · obtain ⟨b, off, i, s, k, o, rfl, hx, hc0, hc1, hc2, hc3⟩ := Sn.span (RowOf.below HS.out hbel) hlt
      have hi0 : (0 : Int) ≤ (j : Int) := by omega
      have hi1 : (j : Int) < (m : Int) := by omega
      have HTK : Hid ((ds.take (j + 1)).map (fun s => iv s.1) = (ds.take j).map (fun s => iv s.1) ++ [.int .i64 i]) := hidb (by rw [List.take_add_one, hx, List.map_append]; rfl)
      have HB := hidb hbel
      have HOWN := hidb (own_below hown ((Below.refl _ _).alloc (Nat.le_refl _) (.cells #[.int .i64 i, .int .i64 s, .int .i64 k, .int .i64 o] 50)))
      have hsz := hbel.size
      have hsz1 : w.heap.size ≤ (wr.alloc (.cells #[.int .i64 i, .int .i64 s, .int .i64 k, .int .i64 o] 50)).heap.size := by simp; omega
      clear hbel hown hx
      go_wp2_with (first
        | (at_builtin; refine wpList_append_oneB _ (wr.heap.size + 1) (by simp) rfl _ _ 38 rfl w.heap.size 3 i0 (.int .i64 0) 8 Tryz.underlying38 hi hz0 hz1 hz2 rfl _ _ _ rfl (by exact HOWN.out) hsz1 (.int .i64 i) rfl _ rfl (by unfold maxLen; omega) (by omega) ?_; intro v3 w3 hown3 hb3))
      have HO := hidb hown3
      have HB3 : Hid (Below w.heap.size w w3) := hidb ((HB.out.alloc hsz _).trans hb3)
      clear hown3 hb3
      go_roundw
      case rel => exact ⟨j + 1, by omega, by go_num, by rw [HTK.out]; exact HO.out, HB3.out⟩
      case measure => simp [intOf]; omega
    · obtain ⟨A', c', rfl⟩ := own_form hown
      have P : Hid (OwnInts w (ds.map (·.1)) (.returned (.slice A' j c')) wr) := hidb (by
        have e : ds.take j = ds := List.take_of_length_le (by rw [HL.out]; omega)
        have hl : (ds.map (·.1)).length = j := by rw [List.length_map, HL.out]; omega
        rw [e] at hown
        refine ⟨A', c', by rw [hl], ?_, hbel⟩
        rw [hl, List.map_map]; exact hown)
      clear hown hbel
      go_wp2
      go_ret
      exact P.out

/-- slices.IndexFunc at spans, with a closure that reads or lays blocks. -/
theorem code_sidx (g : Nat) (cb : Array Value) (eg : ∀ args w, (callFunc g args).run Tryz.prog w = .ok (.enter g args) w) (q : Spn → Bool) (A : Option Addr) (n c : Nat) (ds : List Spn) (w : World) (hs : Sn w w.heap.size A n ds) (hn : n ≤ 4611686018427387903)
    (hq : ∀ W, Below w.heap.size w W → ∀ k ∈ ds, Calls Tryz.prog g (#[spv k] ++ cb) W fun e w' => e = .returned (.bool (q k)) ∧ Below W.heap.size W w') :
    Calls Tryz.prog 130 #[.slice A n c, .func (.func g) #[] cb] w fun e w' => (∃ r : Int, e = .returned (.int .i64 r) ∧ ((r = -1 ∧ ∀ k ∈ ds, q k = false) ∨ ∃ i : Nat, i < n ∧ r = i ∧ (∀ (j : Nat) x, j < i → ds[j]? = some x → q x = false) ∧ ∀ x, ds[i]? = some x → q x = true)) ∧ Below w.heap.size w w' := by
  have HL : Hid (ds.length = n) := hidb hs.1
  have HS := hidb hs
  have HQ := hidb hq
  clear hs hq
  go_enter Tryz.func130, Tryz.ntmps130
  go_wp2
  go_loopw [8] (fun k wr => ∃ j : Nat, j ≤ n ∧ Hid (∀ (i : Nat) x, i < j → ds[i]? = some x → q x = false) ∧ k = .int .i64 j ∧ Hid (Below w.heap.size w wr)) (fun k _ => (n - intOf k).toNat)
  case atStart => exact ⟨0, by omega, hidb (fun i x h => absurd h (Nat.not_lt_zero _)), rfl, hidb (Below.refl _ _)⟩
  case round =>
    obtain ⟨j, hj, HA, rfl, HB⟩ := hrel
    by_cases hlt : j < n
    · obtain ⟨b, off, i, s, k, o, rfl, hx, hc0, hc1, hc2, hc3⟩ := Sn.span (RowOf.below HS.out HB.out) hlt
      have c1 := HQ.out wr HB.out (i, s, k, o) (List.mem_of_getElem? hx)
      have hj0 : (0 : Int) ≤ (j : Int) := by omega
      have hj1 : (j : Int) < (n : Int) := by omega
      have HX := hidb hx
      clear hx
      unfold spv at c1
      simp only at c1
      cases hT : q (i, s, k, o) with
      | false =>
        rw [hT] at c1
        have HA2 : Hid (∀ (i : Nat) y, i < j + 1 → ds[i]? = some y → q y = false) := hidb (fun i' y hi hy => by
          by_cases h : i' = j
          · subst h
            rw [HX.out] at hy
            injection hy with hy
            rw [← hy]; exact hT
          · exact HA.out i' y (by omega) hy)
        clear hT
        go_wp2_with (first | (go_at_fn g; (with_reducible refine c1.mono ?_); rintro e w1 ⟨rfl, hb1⟩))
        go_roundw
        case rel => exact ⟨j + 1, by omega, HA2, by go_num, hidb (HB.out.trans (hb1.mono HB.out.size))⟩
        case measure => simp [intOf]; omega
      | true =>
        rw [hT] at c1
        have HF : Hid (∀ y, ds[j]? = some y → q y = true) := hidb (fun y hy => by
          rw [HX.out] at hy
          injection hy with hy
          rw [← hy]; exact hT)
        clear hT
        go_wp2_with (first | (go_at_fn g; (with_reducible refine c1.mono ?_); rintro e w1 ⟨rfl, hb1⟩))
        go_ret
        exact ⟨⟨j, rfl, Or.inr ⟨j, hlt, rfl, HA.out, HF.out⟩⟩, HB.out.trans (hb1.mono HB.out.size)⟩
    · have HF : Hid (∀ k ∈ ds, q k = false) := hidb (fun k hk => by
        obtain ⟨i, hi, e⟩ := List.mem_iff_getElem.1 hk
        exact HA.out i k (by have := HL.out; omega) (by rw [List.getElem?_eq_getElem hi, e]))
      go_wp2
      go_ret
      exact ⟨⟨-1, rfl, Or.inl ⟨rfl, HF.out⟩⟩, HB.out⟩
theorem code_scont (g : Nat) (cb : Array Value) (eg : ∀ args w, (callFunc g args).run Tryz.prog w = .ok (.enter g args) w) (q : Spn → Bool) (A : Option Addr) (n c : Nat) (ds : List Spn) (w : World) (hs : Sn w w.heap.size A n ds) (hn : n ≤ 4611686018427387903)
    (hq : ∀ W, Below w.heap.size w W → ∀ k ∈ ds, Calls Tryz.prog g (#[spv k] ++ cb) W fun e w' => e = .returned (.bool (q k)) ∧ Below W.heap.size W w') :
    Calls Tryz.prog 85 #[.slice A n c, .func (.func g) #[] cb] w fun e w' => e = .returned (.bool (ds.any q)) ∧ Below w.heap.size w w' := by
  have hl : ds.length = n := hs.1
  have ci : Calls Tryz.prog 130 #[.slice A n c, .func (.func g) #[] cb] w fun e w' => (∃ r : Int, e = .returned (.int .i64 r) ∧ decide (0 ≤ r) = ds.any q) ∧ Below w.heap.size w w' := by
    refine (code_sidx g cb eg q A n c ds w hs hn hq).mono ?_
    rintro e w' ⟨⟨r, rfl, h⟩, hb⟩
    refine ⟨⟨r, rfl, ?_⟩, hb⟩
    rcases h with ⟨rfl, h⟩ | ⟨i, hi, rfl, _, h⟩
    · have : ds.any q = false := List.any_eq_false.2 fun x hx => by rw [h x hx]; simp
      rw [this]; rfl
    · have : ds.any q = true := List.any_eq_true.2 ⟨_, List.getElem_mem (by omega : i < ds.length), h _ (List.getElem?_eq_getElem _)⟩
      rw [this]; exact decide_eq_true (by omega)
  obtain ⟨r, hr⟩ : ∃ r, ds.any q = r := ⟨_, rfl⟩
  rw [hr] at ci ⊢
  clear hr hq hs hl
  go_enter Tryz.func85, Tryz.ntmps85
  go_wp2_with (go_at_call 130; (with_reducible refine ci.mono ?_); rintro e w1 ⟨⟨k, rfl, hk⟩, hb1⟩)
  go_ret
  exact ⟨congrArg Ending.returned (congrArg Value.bool (by first | assumption | rfl)), hb1⟩

end Go.Proofs.YtonmkanppapjjaaGreat
