/- What the walks of layer 8's statements lean on: an arena of 256 words, and the document's example. -/
import Derived.Test.YtcngcibiibchiaaChainRight
import Derived.Test.YtcngcibiibchiaaArenaRef
namespace Go.Proofs.Ytcngcibiibchiaa
open Go.RowKit
set_option linter.unusedVariables false

def zs256 : List Nat := List.replicate 256 0
theorem zs256_length : zs256.length = 256 := List.length_replicate ..
theorem zs256_wide : Wide zs256 := fun x hx => by
  rw [List.eq_of_mem_replicate hx]; omega
theorem code_new4 (w : World) : Calls Try.prog 8 #[.int .i64 4] w fun e w' => ∃ p g, e = .returned (.tuple #[.pointer (some ⟨p, 0, none⟩), .int .i64 0]) ∧ Ar w' w.heap.size p g 256 zs256 ∧ Below w.heap.size w w' := by
  have := code_anew 4 w (by omega) (by omega)
  exact this
theorem eql_chain (a b c d : Int) (W : World) : (binOp .eql 23 (.agg #[.int .i64 a, .int .i64 b]) (.agg #[.int .i64 c, .int .i64 d])).run Try.prog W = .ok (.bool (a == c && b == d)) W := by
  simp [go_sem]
  by_cases h1 : a = c <;> by_cases h2 : b = d <;> simp [h1, h2]
theorem neq_chain (a b c d : Int) (W : World) : (binOp .neq 23 (.agg #[.int .i64 a, .int .i64 b]) (.agg #[.int .i64 c, .int .i64 d])).run Try.prog W = .ok (.bool (!(a == c && b == d))) W := by
  simp [go_sem]
  by_cases h1 : a = c <;> by_cases h2 : b = d <;> simp [h1, h2]
theorem awake_push : cPush zs256 (0, 0) [5, 9] = ((zs256.set 5 0).set 9 6, ((10 : Int), (2 : Int)), (0 : Int)) := by
  have h1 : cList zs256 (0, 0) = some [] := cList_iff.2 ⟨rfl, List.nodup_nil, rfl⟩
  unfold cPush
  rw [h1]
  simp only
  rw [zs256_length, show cIn 256 [5, 9] = true by decide, show cClash [] [5, 9] = false by decide]
  rfl
theorem two_ints (W : World) (a b : Int) (t : TypeId) : Sl (W.alloc (.cells #[.int .i64 a, .int .i64 b] t)) (W.alloc (.cells #[.int .i64 a, .int .i64 b] t)).heap.size (some ⟨W.heap.size, 0, none⟩) 2 ([a, b].map iv) :=
  ⟨rfl, fun _ => ⟨W.heap.size, 0, rfl, by simp, fun j hj => by
    rw [World.cell?_alloc_at _ _ _ _ rfl]
    match j, hj with
    | 0, _ => rfl
    | 1, _ => rfl⟩⟩

theorem bel_ar {w W W' : World} {g : Nat} (hb : Below w.heap.size w W) (hg : W.grownBy W' (some g)) (h : w.heap.size ≤ g) : Below w.heap.size w W' :=
  hb.grown hg hb.size (fun k e => by injection e with e; omega)
theorem awake_word : ((zs256.set 5 0).set 9 6)[9]? = some 6 := by
  rw [List.getElem?_set, if_pos rfl, if_pos (by rw [List.length_set, zs256_length]; omega)]
set_option maxRecDepth 100000 in
theorem awake8 (w : World) : Calls Try.prog 7 #[] w fun e w' => e = .returned (.bool true) ∧ Below w.heap.size w w' := by
  have c1 := code_new4 w
  have hq := fun W => eql_chain 10 2 10 2 W
  go_enter Try.func7, Try.ntmps7
  go_wp2_with (first
    | (go_at_call 8; (with_reducible refine c1.mono ?_); rintro e w1 ⟨p, g, rfl, har, hb1⟩; have cp := code_cpush (har.alloc (.cells #[.int .i64 5, .int .i64 9] 3)) 0 0 (by unfold in64; omega) (by unfold in64; omega) zs256_wide (some ⟨w1.heap.size, 0, none⟩) 2 2 [5, 9] (two_ints w1 5 9 _) (fun _ a e => by (obtain rfl := Option.some.inj e); have := har.lt; simp only; omega) (by omega) (fun x hx => by (rcases List.mem_cons.1 hx with rfl | hx); (unfold in64; omega); (obtain rfl := List.mem_singleton.1 hx); unfold in64; omega); rw [awake_push] at cp; have HAR := hidb har; have HB1 := hidb hb1; clear har hb1)
    | (go_at_call 10; (with_reducible refine cp.mono ?_); rintro e w2 ⟨rfl, ha2, hg2⟩; have cl := code_aload 9 6 (ha2.alloc (.cells #[.int .i64 10, .int .i64 2] 23)) awake_word; rw [show ((9 : Nat) : Int) = 9 from rfl, show ((6 : Nat) : Int) = 6 from rfl] at cl; have HA2 := hidb ha2; have HG2 := hidb hg2; have HC2 := hidb (cells_new w2 [.int .i64 10, .int .i64 2] 23); clear ha2 hg2)
    | (go_at_call 24; (with_reducible refine cl.mono ?_); rintro e w3 ⟨rfl, hb3⟩; have q0 : w3.cell? ⟨w2.heap.size, 0, none⟩ = some (.int .i64 10) := (hb3.cell (p := ⟨w2.heap.size, 0, none⟩) (by simp)).trans (by simp); have q1 : w3.cell? ⟨w2.heap.size, 1, none⟩ = some (.int .i64 2) := (hb3.cell (p := ⟨w2.heap.size, 1, none⟩) (by simp)).trans (by simp); have HB3 := hidb hb3; clear hb3))
  go_ret
  refine ⟨rfl, ?_⟩
  have h1 := (HB1.out.alloc HB1.out.size (.cells #[.int .i64 5, .int .i64 9] 3))
  have h2 := bel_ar h1 HG2.out HAR.out.geg
  have h3 := h2.alloc h2.size (.cells #[.int .i64 10, .int .i64 2] 23)
  exact h3.trans (HB3.out.mono h3.size)

end Go.Proofs.Ytcngcibiibchiaa
