/- Several texts in one: HeapRef, HeapRef2, HeapNew. -/
import Derived.Test.YtlcdgmjinhbncaaGreatPRowWords
import Derived.Test.YtlcdgmjinhbncaaGreatPRunsBase
import Derived.Test.YtlcdgmjinhbncaaGreatPPlain7
import Derived.Deep.Onto
import Derived.Lib.Builder
/- What Find, At, Same and Spans of the document's own answers to layer 7 (heap) return. -/
namespace Go.Proofs.YtlcdgmjinhbncaaGreat
open Go.RowKit
set_option linter.unusedVariables false

/-- A span's cells. -/
def scells (y : Int × Int × Int × Int) : List Value := [iv y.1, iv y.2.1, iv y.2.2.1, iv y.2.2.2]
theorem scells_len : ∀ y, (scells y).length = 4 := fun _ => rfl
/-- The slice value '.slice A n c' has the spans l. -/
def Sn (w : World) (B : Nat) (A : Option Addr) (n : Nat) (l : List (Int × Int × Int × Int)) : Prop := RowOf (fun cs y => cs = scells y) 4 w B A n l
theorem Sn.span {w : World} {B n : Nat} {A : Option Addr} {l : List (Int × Int × Int × Int)} {j : Nat} (h : Sn w B A n l) (hj : j < n) :
    ∃ b off i s k o, A = some ⟨b, off, none⟩ ∧ l[j]? = some (i, s, k, o) ∧ w.cell? ⟨b, off + j * 4, none⟩ = some (.int .i64 i) ∧ w.cell? ⟨b, off + j * 4 + 1, none⟩ = some (.int .i64 s) ∧ w.cell? ⟨b, off + j * 4 + 2, none⟩ = some (.int .i64 k) ∧ w.cell? ⟨b, off + j * 4 + 3, none⟩ = some (.int .i64 o) := by
  obtain ⟨b, off, y, cs, e, _, hy, _, hc, rfl⟩ := RowOf.at_ h hj
  exact ⟨b, off, y.1, y.2.1, y.2.2.1, y.2.2.2, e, hy, hc 0 (by omega), hc 1 (by omega), hc 2 (by omega), hc 3 (by omega)⟩

theorem info_span : (Tryz.prog.info? 49).map (fun i => (i.zero, i.size, i.bytes)) = some (some (.agg #[.int .i64 0, .int .i64 0, .int .i64 0, .int .i64 0]), 4, 32) := by kernel_rfl

/-- The value of a heap. -/
def hval (p : Int) (A : Option Addr) (n c : Nat) (A2 : Option Addr) (n2 c2 : Nat) (last : Int) : Value := .agg #[.int .i64 p, .slice A n c, .slice A2 n2 c2, .int .i64 last]

end Go.Proofs.YtlcdgmjinhbncaaGreat

/- What Spans and New of the document's own answers to layer 7 (heap) return. -/
namespace Go.Proofs.YtlcdgmjinhbncaaGreat
open Go.RowKit
set_option linter.unusedVariables false

/-- Spans that a call made. -/
def OwnSpans (w : World) (l : List (Int × Int × Int × Int)) (e : Ending) (w' : World) : Prop := ∃ A c, e = .returned (.slice A l.length c) ∧ w'.ownsRow w.heap.size 49 4 (.slice A l.length c) l.length (cellsAll scells l) ∧ Below w.heap.size w w'

end Go.Proofs.YtlcdgmjinhbncaaGreat

/- What New of the document's own answers to layer 7 (heap) returns. -/
namespace Go.Proofs.YtlcdgmjinhbncaaGreat
open Go.RowKit
set_option linter.unusedVariables false

theorem frozen_new (w : World) (cs : Array Value) (e : TypeId) (j : Nat) : (w.alloc (.cells cs e)).frozen? ⟨w.heap.size, j, none⟩ = false := by
  have h : (w.alloc (.cells cs e)).heap[w.heap.size]? = some (.cells cs e (0, 0)) := by
    show (w.heap.push _)[w.heap.size]? = _
    simp
  exact Lib.frozen_of_heap h j
theorem Rn.one {w : World} (s l : Int) (e : TypeId) : Rn (w.alloc (.cells #[.int .i64 s, .int .i64 l] e)) (w.alloc (.cells #[.int .i64 s, .int .i64 l] e)).heap.size (some ⟨w.heap.size, 0, none⟩) 1 [(s, l)] := by
  refine ⟨rfl, fun _ => ⟨w.heap.size, 0, rfl, by simp, fun j r hj => ?_⟩⟩
  match j, hj with
  | 0, hj =>
    obtain rfl : (s, l) = r := by simpa using hj
    constructor <;> simp [iv]
  | j + 1, hj => simp at hj

end Go.Proofs.YtlcdgmjinhbncaaGreat
