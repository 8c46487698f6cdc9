/- Plain facts on the document's own pool: spans with lists of blocks. No program is named here. -/
import Derived.Test.YtcgfmpegakpddaaGreatPlain7
namespace Go.Proofs.YtcgfmpegakpddaaGreat

/-- The heap, the spans (each with the blocks in its list), whether it is held. -/
structure PoolV where
  heap : HeapV
  l : List ((Int × Int × Int × Int) × List Int)
  held : Bool

/-- How great a block of an order is. -/
def pSize (order : Int) : Nat := 16 * 2 ^ order.toNat
/-- How many blocks a span has. -/
def pMany (len order : Int) : Nat := ((64 * len.toNat) + (pSize order - 1)) / pSize order
/-- A span's blocks. -/
def pBlocks (s : Int × Int × Int × Int) : List Int := (List.range (pMany s.2.2.1 s.2.2.2)).map fun i => 64 * s.2.1 + ((i * pSize s.2.2.2 : Nat) : Int)
/-- The place of the span of an order with the least start from here on, that has blocks in its list, if asked. -/
def pFits (order from' : Int) (some' : Bool) (c : (Int × Int × Int × Int) × List Int) : Bool := decide (c.1.2.2.2 = order ∧ from' ≤ c.1.2.1) && (!some' || decide (0 < c.2.length))
def pStep (order from' : Int) (some' : Bool) (l : List ((Int × Int × Int × Int) × List Int)) (o : Option Nat) (i : Nat) : Option Nat :=
  match l[i]? with
  | none => o
  | some c => if pFits order from' some' c then (match o with
    | none => some i
    | some b => match l[b]? with
      | none => some b
      | some d => if c.1.2.1 < d.1.2.1 then some i else some b) else o
def pFirst (l : List ((Int × Int × Int × Int) × List Int)) (order from' : Int) (some' : Bool) : Option Nat := (List.range l.length).foldl (pStep order from' some' l) none
/-- The place of the span of a block. -/
def pOf (l : List ((Int × Int × Int × Int) × List Int)) (at' : Int) : Option Nat := l.findIdx? (fun c => decide (at' ∈ pBlocks c.1))
/-- Another span at a place. -/
def pWith (p : PoolV) (i : Nat) (c : (Int × Int × Int × Int) × List Int) : PoolV := { p with l := p.l.set i c }

theorem pSize_pos (o : Int) : 0 < pSize o := Nat.mul_pos (by omega) (Nat.pow_pos (by omega))
theorem pMany_iff (len order : Int) (i : Nat) : i < pMany len order ↔ i * pSize order < 64 * len.toNat := by
  unfold pMany
  have h := pSize_pos order
  obtain ⟨s, hs⟩ : ∃ s, pSize order = s := ⟨_, rfl⟩
  rw [hs] at h ⊢
  constructor
  · intro hi
    have h1 : (i + 1) * s ≤ 64 * len.toNat + (s - 1) := (Nat.le_div_iff_mul_le h).1 hi
    rw [Nat.add_mul] at h1
    omega
  · intro hi
    refine (Nat.le_div_iff_mul_le h).2 ?_
    rw [Nat.succ_mul]
    omega
theorem pMany_le (len order : Int) (h : len ≤ 1024) : pMany len order ≤ 4096 := by
  refine Nat.not_lt.1 fun c => ?_
  have h1 := (pMany_iff len order 4096).1 c
  have h2 : 16 ≤ pSize order := by
    unfold pSize
    have := Nat.pow_pos (n := order.toNat) (show 0 < 2 by omega)
    omega
  have h3 : 4096 * 16 ≤ 4096 * pSize order := Nat.mul_le_mul_left _ h2
  omega
theorem pBlocks_length (s : Int × Int × Int × Int) : (pBlocks s).length = pMany s.2.2.1 s.2.2.2 := by unfold pBlocks; rw [List.length_map, List.length_range]
theorem pBlocks_take (s : Int × Int × Int × Int) (i : Nat) (h : i < pMany s.2.2.1 s.2.2.2) : (pBlocks s).take (i + 1) = (pBlocks s).take i ++ [64 * s.2.1 + ((i * pSize s.2.2.2 : Nat) : Int)] := by
  rw [List.take_add_one]
  congr 1
  unfold pBlocks
  rw [List.getElem?_map, List.getElem?_range h]; rfl

end Go.Proofs.YtcgfmpegakpddaaGreat
