/- Layer 10's keeper: where it lies, and what is read of it. -/
import Derived.Test.YtonmkanppapjjaaGreatLargeDel
import Derived.Test.YtonmkanppapjjaaGreatHeapMain
import Derived.Deep.RegionHeld3
import Derived.Deep.RegionLaw
namespace Go.Proofs.YtonmkanppapjjaaGreat
open Go.RowKit Go.Maps
set_option linter.unusedVariables false

theorem bel_alL {B : Nat} {W X : World} (hB : B ≤ W.heap.size) (h : Below B W X) (o : Obj) : Below B W (X.alloc o) := h.alloc (Nat.le_trans hB h.size) o
theorem bel_al2 {W X : World} (h : Below W.heap.size W X) (o : Obj) : Below W.heap.size W (X.alloc o) := h.alloc h.size o
theorem bel_dr2 {W X : World} (h : Below W.heap.size W X) : Below W.heap.size W X.drew := h.drew
theorem bel_tr2 {W X Y : World} (h : Below W.heap.size W X) (k : Below X.heap.size X Y) : Below W.heap.size W Y := h.trans (k.mono h.size)

/-- A slice's block. -/
def ab (A : Option Addr) : Option Nat := (Value.slice A 0 0).ownBlock
theorem ab_eq (A : Option Addr) (n c : Nat) : (Value.slice A n c).ownBlock = ab A := by cases A <;> rfl

/-- parts: a keeper's four cells. -/
theorem code_kparts (p : Nat) (hp : Option Addr) (K : Option Addr) (kn kc : Nat) (V : Option Addr) (vn vc : Nat) (held : Bool) (w : World) (h0 : w.cell? ⟨p, 0, none⟩ = some (.pointer hp)) (h1 : w.cell? ⟨p, 1, none⟩ = some (.slice K kn kc)) (h2 : w.cell? ⟨p, 2, none⟩ = some (.slice V vn vc)) (h3 : w.cell? ⟨p, 3, none⟩ = some (.bool held)) :
    Calls Tryz.prog 79 #[.pointer (some ⟨p, 0, none⟩)] w fun e w' => e = .returned (.agg #[.pointer hp, .slice K kn kc, .slice V vn vc, .bool held]) ∧ Below w.heap.size w w' := by
  replace h0 := alloc_old (.cells #[.pointer none, .slice none 0 0, .slice none 0 0, .bool false] 135) h0
  replace h1 := alloc_old (.cells #[.pointer none, .slice none 0 0, .slice none 0 0, .bool false] 135) h1
  replace h2 := alloc_old (.cells #[.pointer none, .slice none 0 0, .slice none 0 0, .bool false] 135) h2
  replace h3 := alloc_old (.cells #[.pointer none, .slice none 0 0, .slice none 0 0, .bool false] 135) h3
  go_enter Tryz.func79, Tryz.ntmps79
  go_wp2
  refine bodyPost_ret (v := .agg #[.pointer hp, .slice K kn kc, .slice V vn vc, .bool held]) (by simp [results, Tryz.results79, go_sem]) rfl ?_
  exact ⟨rfl, (Below.refl _ _).alloc (Nat.le_refl _) _⟩
theorem code_kparts_nil (w : World) :
    Calls Tryz.prog 79 #[.pointer none] w fun e w' => e = .returned (.agg #[.pointer none, .slice none 0 0, .slice none 0 0, .bool false]) ∧ Below w.heap.size w w' := by
  go_enter Tryz.func79, Tryz.ntmps79
  go_wp2
  refine bodyPost_ret (v := .agg #[.pointer none, .slice none 0 0, .slice none 0 0, .bool false]) (by simp [results, Tryz.results79, go_sem]) rfl ?_
  exact ⟨rfl, (Below.refl _ _).alloc (Nat.le_refl _) _⟩
theorem field_k0 (hp K V : Option Addr) (kn kc vn vc : Nat) (b : Bool) (w : World) : (Instr.field 135 (.agg #[.pointer hp, .slice K kn kc, .slice V vn vc, .bool b]) 0).run Tryz.prog w = .ok (.pointer hp) w := by kernel_rfl
theorem field_k1 (hp K V : Option Addr) (kn kc vn vc : Nat) (b : Bool) (w : World) : (Instr.field 135 (.agg #[.pointer hp, .slice K kn kc, .slice V vn vc, .bool b]) 1).run Tryz.prog w = .ok (.slice K kn kc) w := by kernel_rfl
theorem field_k2 (hp K V : Option Addr) (kn kc vn vc : Nat) (b : Bool) (w : World) : (Instr.field 135 (.agg #[.pointer hp, .slice K kn kc, .slice V vn vc, .bool b]) 2).run Tryz.prog w = .ok (.slice V vn vc) w := by kernel_rfl

/-- What parts answers, of a keeper or of none. -/
structure PartsOf (w : World) (kv : Option Addr) (hp K : Option Addr) (kc : Nat) (V : Option Addr) (vc : Nat) (kept waits : List Spn) (held : Bool) : Prop where
  call : ∀ W, Below w.heap.size w W → Calls Tryz.prog 79 #[.pointer kv] W fun e w' => e = .returned (.agg #[.pointer hp, .slice K kept.length kc, .slice V waits.length vc, .bool held]) ∧ Below W.heap.size W w'
  kn : Sn w w.heap.size K kept.length kept
  vn : Sn w w.heap.size V waits.length waits
  ks : kept.length ≤ 1024
  vs : waits.length ≤ 1024
theorem PartsOf.below {w w' : World} {kv hp K V : Option Addr} {kc vc : Nat} {kept waits : List Spn} {held : Bool} (h : PartsOf w kv hp K kc V vc kept waits held) (hb : Below w.heap.size w w') : PartsOf w' kv hp K kc V vc kept waits held :=
  ⟨fun W k => h.call W (bel_tr2 hb k), RowOf.more (RowOf.below h.kn hb) hb.size, RowOf.more (RowOf.below h.vn hb) hb.size, h.ks, h.vs⟩
theorem parts_nil (w : World) : PartsOf w none none none 0 none 0 [] [] false := ⟨fun W _ => code_kparts_nil W, RowOf.nil_, RowOf.nil_, Nat.zero_le _, Nat.zero_le _⟩

section
variable {w : World} {kv hp K V : Option Addr} {kc vc : Nat} {kept waits : List Spn} {held : Bool}
/-- Kept. -/
theorem code_kkept (h : PartsOf w kv hp K kc V vc kept waits held) (n : Int) : Calls Tryz.prog 40 #[.pointer kv, .int .i64 n] w (OwnInts w ((lOf kept n).map (·.1))) := by
  have ks := h.ks
  have HP := hidb h
  have ff := @field_k1
  have cz := fun W => code_sized n W
  have HT : Hid (∀ W t (B : World), Below w.heap.size w B → Below B.heap.size B W → t < B.heap.size → B.cell? ⟨t, 0, none⟩ = some (.int .i64 n) → W.cell? ⟨t, 0, none⟩ = some (.int .i64 n)) := hidb (fun W t B _ hb ht hc => (hb.cell (p := ⟨t, 0, none⟩) ht).trans hc)
  obtain ⟨r, hr⟩ : ∃ r, lOf kept n = r := ⟨_, rfl⟩
  have hrl : r.length ≤ 1024 := by rw [← hr]; exact Nat.le_trans (List.length_filter_le _ _) ks
  have HC : Hid (∀ w1, Below w.heap.size w w1 → Calls Tryz.prog 78 #[.slice K kept.length kc, .func (.func 129) #[] #[.pointer (some ⟨w1.heap.size, 0, none⟩)]] (w1.alloc (.cells #[.int .i64 n] 3)) fun e w' => ∃ A c, e = .returned (.slice A r.length c) ∧ Sn w' w'.heap.size A r.length r ∧ Below w.heap.size w w') := hidb (fun w1 hb => by
    have hb2 := bel_al2 hb (.cells #[.int .i64 n] 3)
    refine (code_those K kept.length kc kept w1.heap.size n _ (RowOf.more (RowOf.below HP.out.kn hb2) hb2.size) (by omega) (by simp)).mono ?_
    rw [hr]
    rintro e w' ⟨A, c, rfl, h1, h2⟩
    exact ⟨A, c, rfl, RowOf.of_own scells_len h1 rfl, bel_tr2 hb2 h2⟩)
  have HN : Hid (∀ w2 A c, Below w.heap.size w w2 → Sn w2 w2.heap.size A r.length r → Calls Tryz.prog 92 #[.slice A r.length c] w2 (OwnInts w (r.map (·.1)))) := hidb (fun w2 A c hb hs => by
    refine (code_lnumbers A r.length c r w2 hs (by omega)).mono ?_
    rintro e w' ⟨A', c', rfl, h1, h2⟩
    exact ⟨A', c', rfl, own_lower h1 hb.size, bel_tr2 hb h2⟩)
  rw [hr]
  obtain ⟨kl, hkl⟩ : ∃ kl, kept.length = kl := ⟨_, rfl⟩
  have HCP : Hid (∀ W, Below w.heap.size w W → Calls Tryz.prog 79 #[.pointer kv] W fun e w' => e = .returned (.agg #[.pointer hp, .slice K kl kc, .slice V waits.length vc, .bool held]) ∧ Below W.heap.size W w') := hidb (by rw [← hkl]; exact HP.out.call)
  rw [hkl] at HC
  have HF := hidb ff
  clear hr hkl ff h HP ks
  go_enter Tryz.func40, Tryz.ntmps40
  have ff := HF.out
  go_wp2_with (first
    | (go_at_call 79; (with_reducible refine (HCP.out _ (Below.refl _ _)).mono ?_); rintro e w1 ⟨rfl, hb1⟩)
    | (go_at_call 80; (with_reducible refine (cz _).mono ?_); rintro e w2 ⟨rfl, rfl⟩)
    | (go_at_call 78; (with_reducible refine (HC.out _ hb1).mono ?_); rintro e w3 ⟨A3, c3, rfl, hs3, hb3⟩)
    | (go_at_call 92; (with_reducible refine (HN.out _ _ _ hb3 hs3).mono ?_); rintro e w4 h4; obtain ⟨A4, c4, h4e, h4r, h4b⟩ := h4; subst h4e))
  go_ret
  refine ⟨A4, c4, ?_, h4r, h4b⟩
  rw [List.length_map]; rfl
/-- Waits. -/
theorem code_kwaits (h : PartsOf w kv hp K kc V vc kept waits held) : Calls Tryz.prog 39 #[.pointer kv] w (OwnInts w (waits.map (·.1))) := by
  have vs := h.vs
  have HP := hidb h
  have ff := @field_k2
  have HN : Hid (∀ w2, Below w.heap.size w w2 → Calls Tryz.prog 92 #[.slice V waits.length vc] w2 (OwnInts w (waits.map (·.1)))) := hidb (fun w2 hb => by
    refine (code_lnumbers V waits.length vc waits w2 (RowOf.more (RowOf.below HP.out.vn hb) hb.size) (by omega)).mono ?_
    rintro e w' ⟨A', c', rfl, h1, h2⟩
    exact ⟨A', c', rfl, own_lower h1 hb.size, bel_tr2 hb h2⟩)
  obtain ⟨vl, hvl⟩ : ∃ vl, waits.length = vl := ⟨_, rfl⟩
  have HCP : Hid (∀ W, Below w.heap.size w W → Calls Tryz.prog 79 #[.pointer kv] W fun e w' => e = .returned (.agg #[.pointer hp, .slice K kept.length kc, .slice V vl vc, .bool held]) ∧ Below W.heap.size W w') := hidb (by rw [← hvl]; exact HP.out.call)
  rw [hvl] at HN
  clear hvl h HP vs
  go_enter Tryz.func39, Tryz.ntmps39
  go_wp2_with (first
    | (go_at_call 79; (with_reducible refine (HCP.out _ (Below.refl _ _)).mono ?_); rintro e w1 ⟨rfl, hb1⟩)
    | (go_at_call 92; (with_reducible refine (HN.out _ hb1).mono ?_); rintro e w4 h4; obtain ⟨A4, c4, h4e, h4r, h4b⟩ := h4; subst h4e))
  go_ret
  refine ⟨A4, c4, ?_, h4r, h4b⟩
  rw [List.length_map]; rfl

/-- What stack answers. -/
def StackIs (w : World) (r : Option Spn) (e : Ending) (w' : World) : Prop := e = .returned (.tuple #[spv (r.getD spanNone), .bool r.isSome]) ∧ Below w.heap.size w w'
theorem lStack_at {h : HeapV} (id : Int) : ((h.l.any fun s => s.1 == id) = false → lStack h id = none) ∧ ((h.l.any fun s => s.1 == id) = true → lStack h id = if lBig (spanOf h.l id) then some (spanOf h.l id) else none) := by
  unfold lStack spanOf
  cases e : h.l.find? (fun s => s.1 == id) with
  | none =>
    refine ⟨fun _ => rfl, fun h2 => ?_⟩
    obtain ⟨s, hs, hs2⟩ := List.any_eq_true.1 h2
    have := List.find?_eq_none.1 e s hs
    exact absurd hs2 this
  | some s =>
    refine ⟨fun h2 => ?_, fun _ => ?_⟩
    · have h3 : (h.l.any fun s => s.1 == id) = true := List.any_eq_true.2 ⟨s, List.mem_of_find?_eq_some e, by have := List.find?_some e; exact this⟩
      rw [h3] at h2; cases h2
    · simp only [Option.getD_some]
      cases hb : lBig s <;> simp [Option.filter, hb]
/-- stack: the large stack of a number. -/
theorem code_kstack (h : PartsOf w kv hp K kc V vc kept waits held) (id : Int) (s : Spn) (ok : Bool) (r : Option Spn) (hr : (ok = false → r = none) ∧ (ok = true → r = if lBig s then some s else none)) (hs : in64 s.2.2.1)
    (hcs : ∀ W, Below w.heap.size w W → Calls Tryz.prog 133 #[.pointer hp, .int .i64 id] W (SpanIs W s ok)) :
    Calls Tryz.prog 84 #[.pointer kv, .int .i64 id] w (StackIs w r) := by
  obtain ⟨s1, s2, s3, s4⟩ := s
  have HCP := hidb h.call
  have HCS : Hid (∀ W, Below w.heap.size w W → Calls Tryz.prog 133 #[.pointer hp, .int .i64 id] W fun e w' => e = .returned (.tuple #[.agg #[.int .i64 s1, .int .i64 s2, .int .i64 s3, .int .i64 s4], .bool ok]) ∧ Below W.heap.size W w') := hidb hcs
  have ff := @field_k0
  have hb0 : Below w.heap.size w (w.alloc (.cells #[.int .i64 0, .int .i64 0, .int .i64 0, .int .i64 0] 50)) := (Below.refl _ _).alloc (Nat.le_refl _) _
  have HB0 := hidb hb0
  have hzz : w.heap.size < (w.alloc (.cells #[.int .i64 0, .int .i64 0, .int .i64 0, .int .i64 0] 50)).heap.size := by simp
  have HC : Hid (∀ W, Below (w.alloc (.cells #[.int .i64 0, .int .i64 0, .int .i64 0, .int .i64 0] 50)).heap.size (w.alloc (.cells #[.int .i64 0, .int .i64 0, .int .i64 0, .int .i64 0] 50)) W →
      W.heap[w.heap.size]? = some (.cells #[.int .i64 0, .int .i64 0, .int .i64 0, .int .i64 0] 50 (0, 0))) := hidb (fun W hb => (hb.block _ hzz).trans (by show (w.heap.push _)[w.heap.size]? = _; simp))
  have hf64 := hs
  simp only at hf64
  have ci := fun W => code_isSize s3 W hf64
  clear hcs hb0 hs h
  have HAL : Hid (∀ (w2 w3 : World) (d : Int), Below (w.alloc (.cells #[.int .i64 0, .int .i64 0, .int .i64 0, .int .i64 0] 50)).heap.size (w.alloc (.cells #[.int .i64 0, .int .i64 0, .int .i64 0, .int .i64 0] 50)) w2 → Below (w2.alloc (.cells #[.int .i64 s1, .int .i64 s2, .int .i64 s3, .int .i64 d] 50)).heap.size (w2.alloc (.cells #[.int .i64 s1, .int .i64 s2, .int .i64 s3, .int .i64 d] 50)) w3 → Below (w.alloc (.cells #[.int .i64 0, .int .i64 0, .int .i64 0, .int .i64 0] 50)).heap.size (w.alloc (.cells #[.int .i64 0, .int .i64 0, .int .i64 0, .int .i64 0] 50)) w3) := hidb (fun w2 w3 d hb hb2 => bel_tr2 (bel_al2 hb _) hb2)
  have HSP : Hid (∀ (w2 w3 : World) (d : Int), Below (w2.alloc (.cells #[.int .i64 s1, .int .i64 s2, .int .i64 s3, .int .i64 d] 50)).heap.size (w2.alloc (.cells #[.int .i64 s1, .int .i64 s2, .int .i64 s3, .int .i64 d] 50)) w3 → SpAt w3 w2.heap.size (s1, s2, s3, d)) := hidb (fun w2 w3 d hb => (SpAt.new_ w2 (s1, s2, s3, d) 50).below hb (by simp))
  cases ok with
  | false =>
    rw [hr.1 rfl]
    clear hr
    go_enter Tryz.func84, Tryz.ntmps84
    go_wp2_with (first
      | (go_at_call 79; (with_reducible refine (HCP.out _ HB0.out).mono ?_); rintro e w1 ⟨rfl, hb1⟩; have hb2 := bel_tr2 HB0.out hb1)
      | (go_at_call 133; (with_reducible refine (HCS.out _ hb2).mono ?_); rintro e w2 ⟨rfl, hb3⟩; have hb4 := hb1.trans (hb3.mono hb1.size); obtain ⟨q0, q1, q2, q3, z0, z1, z2, z3⟩ := cells4 (HC.out _ hb4); have hlt1 : w.heap.size < w2.heap.size := lt_of_cell q0))
    obtain ⟨x0, x1, x2, x3⟩ := four_cellsH w2 w.heap.size (.int .i64 0) (.int .i64 0) (.int .i64 0) (.int .i64 0) _ _ _ _ q0 q1 q2 q3
    have y0 := alloc_old (.cells #[.int .i64 s1, .int .i64 s2, .int .i64 s3, .int .i64 s4] 50) x0
    have y1 := alloc_old (.cells #[.int .i64 s1, .int .i64 s2, .int .i64 s3, .int .i64 s4] 50) x1
    have y2 := alloc_old (.cells #[.int .i64 s1, .int .i64 s2, .int .i64 s3, .int .i64 s4] 50) x2
    have y3 := alloc_old (.cells #[.int .i64 s1, .int .i64 s2, .int .i64 s3, .int .i64 s4] 50) x3
    refine bodyPost_ret (v := .tuple #[.agg #[.int .i64 0, .int .i64 0, .int .i64 0, .int .i64 0], .bool false]) (by simp [results, Tryz.results84, go_sem, y0, y1, y2, y3]) rfl ?_
    exact ⟨rfl, bel_al2 (below_set4H (bel_tr2 HB0.out hb4) (Nat.le_refl _) _ _ _ _) _⟩
  | true =>
    have hr2 := hr.2 rfl
    unfold lBig at hr2
    simp only at hr2
    clear hr
    by_cases ho : s4 = -1
    · subst ho
      cases hf : lFits s3 with
      | false =>
        obtain rfl : r = none := by rw [hr2, hf]; rfl
        rw [hf] at ci
        clear hr2 hf
        go_enter Tryz.func84, Tryz.ntmps84
        go_wp2_with (first
          | (go_at_call 79; (with_reducible refine (HCP.out _ HB0.out).mono ?_); rintro e w1 ⟨rfl, hb1⟩; have hb2 := bel_tr2 HB0.out hb1)
          | (go_at_call 133; (with_reducible refine (HCS.out _ hb2).mono ?_); rintro e w2 ⟨rfl, hb3⟩; have hb4 := hb1.trans (hb3.mono hb1.size); obtain ⟨q0, q1, q2, q3, z0, z1, z2, z3⟩ := cells4 (HC.out _ hb4); have hlt1 : w.heap.size < w2.heap.size := lt_of_cell q0)
          | (go_at_call 77; (with_reducible refine (ci _).mono ?_); rintro e w3 ⟨rfl, hb5⟩; have hb6 := HAL.out w2 w3 (-1) hb4 hb5; obtain ⟨x0, x1, x2, x3, z4, z5, z6, z7⟩ := cells4 (HC.out _ hb6); have hlt3 : w.heap.size < w3.heap.size := lt_of_cell x0))
        obtain ⟨y0, y1, y2, y3⟩ := four_cellsH w3 w.heap.size (.int .i64 0) (.int .i64 0) (.int .i64 0) (.int .i64 0) _ _ _ _ x0 x1 x2 x3
        refine bodyPost_ret (v := .tuple #[.agg #[.int .i64 0, .int .i64 0, .int .i64 0, .int .i64 0], .bool false]) (by simp [results, Tryz.results84, go_sem, y0, y1, y2, y3]) rfl ?_
        exact ⟨rfl, below_set4H (bel_tr2 HB0.out hb6) (Nat.le_refl _) _ _ _ _⟩
      | true =>
        obtain rfl : r = some (s1, s2, s3, -1) := by rw [hr2, hf]; rfl
        rw [hf] at ci
        clear hr2 hf
        go_enter Tryz.func84, Tryz.ntmps84
        go_wp2_with (first
          | (go_at_call 79; (with_reducible refine (HCP.out _ HB0.out).mono ?_); rintro e w1 ⟨rfl, hb1⟩; have hb2 := bel_tr2 HB0.out hb1)
          | (go_at_call 133; (with_reducible refine (HCS.out _ hb2).mono ?_); rintro e w2 ⟨rfl, hb3⟩; have hb4 := hb1.trans (hb3.mono hb1.size); obtain ⟨q0, q1, q2, q3, z0, z1, z2, z3⟩ := cells4 (HC.out _ hb4); have hlt1 : w.heap.size < w2.heap.size := lt_of_cell q0)
          | (go_at_call 77; (with_reducible refine (ci _).mono ?_); rintro e w3 ⟨rfl, hb5⟩; have hb6 := HAL.out w2 w3 (-1) hb4 hb5; obtain ⟨x0, x1, x2, x3, z4, z5, z6, z7⟩ := cells4 (HC.out _ hb6); have hlt3 : w.heap.size < w3.heap.size := lt_of_cell x0; obtain ⟨t0, t1, t2, t3⟩ := (HSP.out w2 w3 (-1) hb5).cells))
        obtain ⟨y0, y1, y2, y3⟩ := four_cellsH w3 w.heap.size (.int .i64 s1) (.int .i64 s2) (.int .i64 s3) (.int .i64 (-1)) _ _ _ _ x0 x1 x2 x3
        refine bodyPost_ret (v := .tuple #[.agg #[.int .i64 s1, .int .i64 s2, .int .i64 s3, .int .i64 (-1)], .bool true]) (by simp [results, Tryz.results84, go_sem, y0, y1, y2, y3]) rfl ?_
        exact ⟨rfl, below_set4H (bel_tr2 HB0.out hb6) (Nat.le_refl _) _ _ _ _⟩
    · obtain rfl : r = none := by rw [hr2, decide_eq_false ho]; rfl
      have hd : (s4 != -1) = true := by simpa using ho
      clear hr2 ho
      go_enter Tryz.func84, Tryz.ntmps84
      go_wp2_with (first
        | (go_at_call 79; (with_reducible refine (HCP.out _ HB0.out).mono ?_); rintro e w1 ⟨rfl, hb1⟩; have hb2 := bel_tr2 HB0.out hb1)
        | (go_at_call 133; (with_reducible refine (HCS.out _ hb2).mono ?_); rintro e w2 ⟨rfl, hb3⟩; have hb4 := hb1.trans (hb3.mono hb1.size); obtain ⟨q0, q1, q2, q3, z0, z1, z2, z3⟩ := cells4 (HC.out _ hb4); have hlt1 : w.heap.size < w2.heap.size := lt_of_cell q0))
      obtain ⟨x0, x1, x2, x3⟩ := four_cellsH w2 w.heap.size (.int .i64 0) (.int .i64 0) (.int .i64 0) (.int .i64 0) _ _ _ _ q0 q1 q2 q3
      have y0 := alloc_old (.cells #[.int .i64 s1, .int .i64 s2, .int .i64 s3, .int .i64 s4] 50) x0
      have y1 := alloc_old (.cells #[.int .i64 s1, .int .i64 s2, .int .i64 s3, .int .i64 s4] 50) x1
      have y2 := alloc_old (.cells #[.int .i64 s1, .int .i64 s2, .int .i64 s3, .int .i64 s4] 50) x2
      have y3 := alloc_old (.cells #[.int .i64 s1, .int .i64 s2, .int .i64 s3, .int .i64 s4] 50) x3
      refine bodyPost_ret (v := .tuple #[.agg #[.int .i64 0, .int .i64 0, .int .i64 0, .int .i64 0], .bool false]) (by simp [results, Tryz.results84, go_sem, y0, y1, y2, y3]) rfl ?_
      exact ⟨rfl, bel_al2 (below_set4H (bel_tr2 HB0.out hb4) (Nat.le_refl _) _ _ _ _) _⟩
end

end Go.Proofs.YtonmkanppapjjaaGreat
