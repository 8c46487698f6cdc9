/- slices.SortFunc of a row of spans of the call's own, by where they begin. -/
import Derived.Test.YtcngcibiibchiaaGreatRunsSort
import Derived.Test.YtcngcibiibchiaaGreatPlain7
import Derived.Test.YtcngcibiibchiaaGreatHeapRef
namespace Go.Proofs.YtcngcibiibchiaaGreat
open Go.RowKit Go.Shelf Go.Lib Go.Sort
set_option linter.unusedVariables false

/-- Cells of structs of any size, as the sort has them. -/
theorem flat_cellsAll {E : Type} [Inhabited E] (f : E → List Value) (s : Nat) (hs : 0 < s) (hf : ∀ y, (f y).length = s) (d : Array E) : flatK f s d = (cellsAll f d.toList).toArray := by
  apply Array.ext_getElem?
  intro t
  have hlen := cellsAll_length hf d.toList
  simp only [Array.length_toList] at hlen
  by_cases ht : t < d.size * s
  · have hj : t / s < d.size := Nat.div_lt_of_lt_mul (by rw [Nat.mul_comm]; exact ht)
    have hm : t % s < s := Nat.mod_lt _ hs
    have h := cellsAll_at hf d.toList (t / s) d[t / s]! (by rw [getElem!_pos d _ hj]; simp [hj]) (t % s) hm
    have e0 : t / s * s + t % s = t := by rw [Nat.mul_comm]; exact Nat.div_add_mod t s
    rw [e0] at h
    have e1 : (flatK f s d)[t]? = some ((f d[t / s]!)[t % s]!) := by
      rw [Array.getElem?_eq_getElem (by simp; omega)]
      simp [flatK]
    rw [e1, List.getElem?_toArray, h, List.getElem?_eq_getElem (by rw [hf]; exact hm), getElem!_pos _ _ (by rw [hf]; exact hm)]
  · rw [Array.getElem?_eq_none (by simp; omega), Array.getElem?_eq_none (by rw [List.size_toArray]; omega)]
section
variable {E : Type} [Inhabited E] (f : E → List Value) (s : Nat) (hs : 0 < s) (hf : ∀ y, (f y).length = s)
include hs hf
theorem holds_rwS {w : World} {g : Nat} {e : TypeId} {L : List Value} (h : Rw w g e L) (d : Array E) (hd : L.take (d.size * s) = cellsAll f d.toList) : HoldsK f s w g 0 d := by
  unfold HoldsK Holds
  rw [flat_cellsAll f s hs hf]
  have hlen := cellsAll_length hf d.toList
  simp only [Array.length_toList] at hlen
  intro j hj
  have hj' : j < (cellsAll f d.toList).length := by simpa using hj
  have hl : j < d.size * s := by omega
  refine ⟨?_, h.free _⟩
  rw [Nat.zero_add, h.cell, getElem!_pos _ _ (by simpa using hj'), List.getElem_toArray]
  have h2 : (L.take (d.size * s))[j]? = L[j]? := by rw [List.getElem?_take, if_pos hl]
  rw [← h2, hd, List.getElem?_eq_getElem hj']; rfl
theorem put_rwS {w : World} {g : Nat} {e : TypeId} {L : List Value} (h : Rw w g e L) (m : Nat) (d : Array E) (os : Array Obj) (hd : d.size * s ≤ L.length) :
    Rw (sortWorldK f s w g 0 m d os) g e (cellsAll f d.toList ++ L.drop (d.size * s)) ∧ w.grownBy (sortWorldK f s w g 0 m d os) (some g) := by
  have hlt := h.lt
  have hrl := cellsAll_length hf d.toList
  simp only [Array.length_toList] at hrl
  unfold Rw at h
  unfold sortWorldK putRowK putRow
  rw [flat_cellsAll f s hs hf]
  obtain ⟨C, hC⟩ : ∃ C, cellsAll f d.toList = C := ⟨_, rfl⟩
  rw [hC] at hrl ⊢
  have hsz : (mapBlock (Sort.ahead w m) g (putCells id 0 C.toArray)).heap.size = w.heap.size := by simp [mapBlock, Sort.ahead]
  constructor
  · unfold Rw
    rw [heap_grow_old _ _ (by rw [hsz]; exact hlt)]
    show ((w.heap.modify g (onCells (putCells id 0 C.toArray))))[g]? = _
    rw [Array.getElem?_modify, if_pos rfl, h]
    show some (Obj.cells _ e (0, 0)) = _
    congr 2
    unfold putCells
    apply Array.ext_getElem?
    intro k
    rw [Array.getElem?_mapIdx]
    by_cases hk : k < d.size * s
    · rw [List.getElem?_toArray, List.getElem?_toArray, List.getElem?_append_left (by omega), List.getElem?_eq_getElem (by omega), List.getElem?_eq_getElem (by omega)]
      simp only [Option.map_some, Nat.sub_zero]
      rw [if_pos (by simp; omega), getElem!_pos _ _ (by simp; omega), List.getElem_toArray]; rfl
    · rw [List.getElem?_toArray, List.getElem?_toArray, List.getElem?_append_right (by omega), List.getElem?_drop, hrl, show d.size * s + (k - d.size * s) = k by omega]
      cases L[k]? with
      | none => rfl
      | some u =>
        simp only [Option.map_some]
        rw [if_neg (by simp; omega)]
  · refine ⟨rfl, rfl, rfl, ?_, fun k hk hr => ?_⟩
    · have : (grow (mapBlock (Sort.ahead w m) g (putCells id 0 C.toArray)) os).heap.size = w.heap.size + os.size := by simp [grow, hsz]
      omega
    · rw [heap_grow_old _ _ (by rw [hsz]; exact hk)]
      show ((w.heap.modify g (onCells (putCells id 0 C.toArray))))[k]? = _
      rw [Array.getElem?_modify, if_neg (fun e => hr (by rw [e]))]
end

set_option maxHeartbeats 1000000 in
theorem code_cmpS (x y : Int × Int × Int × Int) (W : World) : Calls Tryz.prog 38 #[.agg #[.int .i64 x.1, .int .i64 x.2.1, .int .i64 x.2.2.1, .int .i64 x.2.2.2], .agg #[.int .i64 y.1, .int .i64 y.2.1, .int .i64 y.2.2.1, .int .i64 y.2.2.2]] W fun e w' => e = .returned (.int .i64 (Lib.compareInt x.2.1 y.2.1)) ∧ ∃ q os', w' = grow (W.drewN q) os' := by
  have hcon := fun W' => AnyG.cmp_Compare_int Tryz.cmpInt x.2.1 y.2.1 W'
  change ∀ W', Calls Tryz.prog 39 _ _ _ at hcon
  generalize Lib.compareInt x.2.1 y.2.1 = r at hcon ⊢
  go_enter Tryz.func38, Tryz.ntmps38
  go_wp2_with (go_at_call 39; refine (hcon _).mono ?_; rintro e w' ⟨rfl, rfl⟩)
  go_ret
  exact ⟨rfl, 0, _, by rw [alloc_eq_grow, alloc_eq_grow, grow_grow]; rfl⟩
theorem lt_startS (x y : Int × Int × Int × Int) : ltOf (fun x y : Int × Int × Int × Int => Lib.compareInt x.2.1 y.2.1) x y = decide (x.2.1 < y.2.1) := by
  unfold ltOf Lib.compareInt
  by_cases h1 : x.2.1 < y.2.1
  · simp [h1]
  · by_cases h2 : y.2.1 < x.2.1 <;> simp [h1, h2]
theorem swo_startS : SWO (ltOf fun x y : Int × Int × Int × Int => Lib.compareInt x.2.1 y.2.1) where
  irrefl x := by rw [lt_startS]; simp
  trans x y z h1 h2 := by rw [lt_startS] at *; simp at *; omega
  ntrans x y z h1 h2 := by rw [lt_startS] at *; simp at *; omega

/-- What the sort leaves. -/
def SortedS (w : World) (base : Nat) (A : Option Addr) (n c : Nat) (rs : List (Int × Int × Int × Int)) (e : Ending) (w' : World) : Prop :=
  e = .returned (.tuple #[]) ∧ ∃ ds : List (Int × Int × Int × Int), ds.Perm rs ∧ (ds.Pairwise fun a b => a.2.1 ≤ b.2.1) ∧ w'.ownsRow base 43 4 (.slice A n c) n (cellsAll scells ds) ∧ w.grownBy w' (Value.slice A n c).ownBlock
theorem code_sortS (A : Option Addr) (n c : Nat) (rs : List (Int × Int × Int × Int)) (w : World) (base : Nat) (hown : w.ownsRow base 43 4 (.slice A n c) n (cellsAll scells rs)) (hl : rs.length = n) (h0 : ¬ n = 0) (hn : n ≤ 4611686018427387903) :
    Calls Tryz.prog 60 #[.slice A n c, .func (.func 38) #[] #[]] w (SortedS w base A n c rs) := by
  obtain ⟨g, rfl⟩ : ∃ g, A = some ⟨g, 0, none⟩ := by
    rcases hown.2 with ⟨_, h⟩ | ⟨g, cap, cur, h, _⟩
    · exact absurd h h0
    · injection h with e1; exact ⟨g, e1⟩
  obtain ⟨L, hL, hbg, hnc, hcm, hLl, hxs⟩ := own_whole hown
  have eg : ∀ args w, (callFunc 38 args).run Tryz.prog w = .ok (.enter 38 args) w := enters_of Tryz.func38 (by kernel_rfl) rfl
  have hd : rs.toArray.size = n := by simpa using hl
  have hH : HoldsK scells 4 w g 0 rs.toArray := holds_rwS scells 4 (by decide) scells_len hL rs.toArray (by rw [hd, ← hxs])
  have h := AnyQ.slices_SortFunc Tryz.sortSpans 4 Tryz.isAgg43 Tryz.sizeOf43 scells (fun _ => rfl) (fun x v hv => by simp [scells] at hv; rcases hv with rfl | rfl | rfl | rfl <;> rfl) (fun x y => Lib.compareInt x.2.1 y.2.1) swo_startS 38 #[] g 0 c rs.toArray w eg
    (fun _ _ _ _ x y => code_cmpS x y _) hH hL.lt (by omega)
  rw [hd] at h
  change Calls Tryz.prog 60 _ _ _ at h
  refine h.mono ?_
  rintro e w' ⟨he, d', m, os, ⟨hp1, _, hp3⟩, hs, rfl⟩
  have hdn : d'.size = n := by rw [hp1, hd]
  obtain ⟨r1, r2⟩ := put_rwS scells 4 (by decide) scells_len hL m d' os (by rw [hdn, hLl]; exact Nat.mul_le_mul_right 4 hnc)
  have hdl := cellsAll_length scells_len d'.toList
  simp only [Array.length_toList] at hdl
  refine ⟨he, d'.toList, ?_, ?_, ?_, r2⟩
  · have e1 : d'.extract 0 n = d' := by rw [← hdn]; exact Array.extract_size
    have e2 : rs.toArray.extract 0 n = rs.toArray := by rw [← hd]; exact Array.extract_size
    rw [e1, e2] at hp3
    exact hp3
  · rw [List.pairwise_iff_getElem]
    intro i j hi hj hij
    have hi' : i < d'.size := by simpa using hi
    have hj' : j < d'.size := by simpa using hj
    have := hs i j (Nat.zero_le _) hij (by omega)
    rw [getElem!_pos d' j hj', getElem!_pos d' i hi', lt_startS] at this
    have := of_decide_eq_false this
    simp only [Array.getElem_toList]
    omega
  · have h2 := own_of_whole (base := base) (s := 4) (n := n) (c := c) r1 hbg hnc hcm (by rw [List.length_append, hdl, List.length_drop, hLl, hdn]; have := Nat.mul_le_mul_right 4 hnc; omega)
    rw [List.take_left' (by rw [hdl, hdn])] at h2
    exact h2

end Go.Proofs.YtcngcibiibchiaaGreat
