/- What 'Hold' of the document's own keeper returns when it is held from now on; and of all its cases. -/
import Derived.Test.YtonmkanppapjjaaGreatKeepDrop
namespace Go.Proofs.YtonmkanppapjjaaGreat
open Go.RowKit
set_option linter.unusedVariables false

set_option maxRecDepth 100000 in
set_option maxHeartbeats 2000000 in
theorem ref_khold_on (P : Nat → Prop) (q : LargeV) (v : Value) (w : World) (hv : KoIs w P q v) :
    Calls Tryz.prog 90 #[v, .bool true] w (HeldIs w P (lHold q true) ((.bool q.held))) := by
  obtain ⟨A, m, c, A2, m2, c2, A3, m3, c3, A4, m4, c4, rfl, k⟩ := hv
  obtain ⟨pg, hpg⟩ : ∃ x, q.h.pages = x := ⟨_, rfl⟩
  obtain ⟨la, hla⟩ : ∃ x, q.h.last = x := ⟨_, rfl⟩
  obtain ⟨hd, hhd⟩ : ∃ x, q.held = x := ⟨_, rfl⟩
  have HR : Hid (∀ WF, Below w.heap.size w WF → HeldIs w P (lHold q true) (.bool q.held) (.returned (.tuple #[.agg #[.int .i64 pg, .slice A m c, .slice A2 m2 c2, .int .i64 la, .slice A3 m3 c3, .slice A4 m4 c4, .bool true], .bool hd])) WF) := hidb (fun WF hb => by
    have k2 := k.below hb
    rw [← hpg, ← hla, ← hhd]
    exact ⟨_, rfl, ⟨A, m, c, A2, m2, c2, A3, m3, c3, A4, m4, c4, rfl, ⟨k2.hi, k2.kr, k2.wr⟩⟩, hb⟩)
  unfold kval
  rw [hpg, hla, hhd] at *
  clear k hpg hla hhd
  go_enter Tryz.func90, Tryz.ntmps90
  go_wp2
  refine bodyPost_ret (v := .tuple #[.agg #[.int .i64 pg, .slice A m c, .slice A2 m2 c2, .int .i64 la, .slice A3 m3 c3, .slice A4 m4 c4, .bool true], .bool hd]) (by simp [results, Tryz.results90, go_sem]) rfl (HR.out _ ?_)
  repeat (first | assumption | exact Below.refl _ _ | refine Below.drew ?_ | refine Below.alloc ?_ (by first | omega | (simp; done) | (simp; omega)) _ | refine Below.setCell ?_ (by first | omega | (simp; done) | (simp; omega)) _)

theorem ref_khold (P : Nat → Prop) (q : LargeV) (v : Value) (on : Bool) (w : World) (hP : ∀ b, w.heap.size ≤ b → P b) (hv : KoIs w P q v) (o : LOk q) (hf : Few q) (hla0 : q.h.last ≤ 1000000000) :
    Calls Tryz.prog 90 #[v, .bool on] w (HeldIs w P (lHold q on) ((.bool q.held))) := by
  cases on
  · exact ref_khold_off P q v w hP hv o hf hla0
  · exact ref_khold_on P q v w hv

end Go.Proofs.YtonmkanppapjjaaGreat
