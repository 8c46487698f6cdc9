/- slices.SortFunc of a row of runs of the call's own, by where they begin. -/
import Derived.Test.YtcngcibiibchiaaGreatRunsClone
import Derived.Test.YtcngcibiibchiaaGreatShelf
namespace Go.Proofs.YtcngcibiibchiaaGreat
open Go.RowKit Go.Shelf Go.Lib Go.Sort
set_option linter.unusedVariables false

/-- A run's two cells. -/
def encR (x : Int × Int) : List Value := [.int .i64 x.1, .int .i64 x.2]
theorem flat_rcells (d : Array (Int × Int)) : flatK encR 2 d = (rcells d.toList).toArray := by
  apply Array.ext_getElem?
  intro t
  by_cases ht : t < d.size * 2
  · have hj : t / 2 < d.size := by omega
    have h := rcells_at d.toList (t / 2) d[t / 2]! (by rw [getElem!_pos d _ hj]; simp [hj])
    have e1 : (flatK encR 2 d)[t]? = some ((encR d[t / 2]!)[t % 2]!) := by
      rw [Array.getElem?_eq_getElem (by simp; omega)]
      simp [flatK]
    rw [e1]
    have hm : t % 2 = 0 ∨ t % 2 = 1 := by omega
    rcases hm with hm | hm
    · rw [hm, List.getElem?_toArray, show t = t / 2 * 2 by omega, show t / 2 * 2 / 2 = t / 2 by omega, h.1]; rfl
    · rw [hm, List.getElem?_toArray, show t = t / 2 * 2 + 1 by omega, show (t / 2 * 2 + 1) / 2 = t / 2 by omega, h.2]; rfl
  · rw [Array.getElem?_eq_none (by simp; omega), Array.getElem?_eq_none (by simp [rcells_length]; omega)]
theorem holds_rw {w : World} {g : Nat} {e : TypeId} {L : List Value} {n : Nat} (h : Rw w g e L) (d : Array (Int × Int)) (hd : L.take (d.size * 2) = rcells d.toList) : HoldsK encR 2 w g 0 d := by
  unfold HoldsK Holds
  rw [flat_rcells]
  intro j hj
  have hj' : j < (rcells d.toList).length := by simpa using hj
  have hl : j < d.size * 2 := by rw [rcells_length] at hj'; simpa using hj'
  refine ⟨?_, h.free _⟩
  rw [Nat.zero_add, h.cell, getElem!_pos _ _ (by simpa using hj'), List.getElem_toArray]
  have h2 : (L.take (d.size * 2))[j]? = L[j]? := by rw [List.getElem?_take, if_pos hl]
  rw [← h2, hd, List.getElem?_eq_getElem hj']; rfl
theorem put_rw {w : World} {g : Nat} {e : TypeId} {L : List Value} (h : Rw w g e L) (m : Nat) (d : Array (Int × Int)) (os : Array Obj) (hd : d.size * 2 ≤ L.length) :
    Rw (sortWorldK encR 2 w g 0 m d os) g e (rcells d.toList ++ L.drop (d.size * 2)) ∧ w.grownBy (sortWorldK encR 2 w g 0 m d os) (some g) := by
  have hlt := h.lt
  unfold Rw at h
  unfold sortWorldK putRowK putRow
  rw [flat_rcells]
  have hsz : (mapBlock (Sort.ahead w m) g (putCells id 0 (rcells d.toList).toArray)).heap.size = w.heap.size := by simp [mapBlock, Sort.ahead]
  constructor
  · unfold Rw
    rw [heap_grow_old _ _ (by rw [hsz]; exact hlt)]
    show ((w.heap.modify g (onCells (putCells id 0 (rcells d.toList).toArray))))[g]? = _
    rw [Array.getElem?_modify, if_pos rfl, h]
    show some (Obj.cells _ e (0, 0)) = _
    congr 2
    unfold putCells
    apply Array.ext_getElem?
    intro k
    rw [Array.getElem?_mapIdx]
    have hrl : (rcells d.toList).length = d.size * 2 := by rw [rcells_length]; simp
    by_cases hk : k < d.size * 2
    · rw [List.getElem?_toArray, List.getElem?_toArray, List.getElem?_append_left (by omega), List.getElem?_eq_getElem (by omega), List.getElem?_eq_getElem (by omega)]
      simp only [Option.map_some, Nat.sub_zero]
      rw [if_pos (by simp; omega), getElem!_pos _ _ (by simp; omega), List.getElem_toArray]; rfl
    · rw [List.getElem?_toArray, List.getElem?_toArray, List.getElem?_append_right (by omega), List.getElem?_drop, hrl, show d.size * 2 + (k - d.size * 2) = k by omega]
      cases L[k]? with
      | none => rfl
      | some u =>
        simp only [Option.map_some]
        rw [if_neg (by simp; omega)]
  · refine ⟨rfl, rfl, rfl, ?_, fun k hk hr => ?_⟩
    · have : (grow (mapBlock (Sort.ahead w m) g (putCells id 0 (rcells d.toList).toArray)) os).heap.size = w.heap.size + os.size := by simp [grow, hsz]
      omega
    · rw [heap_grow_old _ _ (by rw [hsz]; exact hk)]
      show ((w.heap.modify g (onCells (putCells id 0 (rcells d.toList).toArray))))[k]? = _
      rw [Array.getElem?_modify, if_neg (fun e => hr (by rw [e]))]

set_option maxHeartbeats 1000000 in
theorem code_cmp (x y : Int × Int) (W : World) : Calls Tryz.prog 50 #[.agg #[.int .i64 x.1, .int .i64 x.2], .agg #[.int .i64 y.1, .int .i64 y.2]] W fun e w' => e = .returned (.int .i64 (Lib.compareInt x.1 y.1)) ∧ ∃ q os', w' = grow (W.drewN q) os' := by
  have hcon := fun W' => AnyG.cmp_Compare_int Tryz.cmpInt x.1 y.1 W'
  change ∀ W', Calls Tryz.prog 39 _ _ _ at hcon
  generalize Lib.compareInt x.1 y.1 = r at hcon ⊢
  go_enter Tryz.func50, Tryz.ntmps50
  go_wp2_with (go_at_call 39; refine (hcon _).mono ?_; rintro e w' ⟨rfl, rfl⟩)
  go_ret
  exact ⟨rfl, 0, _, by rw [alloc_eq_grow, alloc_eq_grow, grow_grow]; rfl⟩
theorem lt_start (x y : Int × Int) : ltOf (fun x y : Int × Int => Lib.compareInt x.1 y.1) x y = decide (x.1 < y.1) := by
  unfold ltOf Lib.compareInt
  by_cases h1 : x.1 < y.1
  · simp [h1]
  · by_cases h2 : y.1 < x.1 <;> simp [h1, h2]
theorem swo_start : SWO (ltOf fun x y : Int × Int => Lib.compareInt x.1 y.1) where
  irrefl x := by rw [lt_start]; simp
  trans x y z h1 h2 := by rw [lt_start] at *; simp at *; omega
  ntrans x y z h1 h2 := by rw [lt_start] at *; simp at *; omega

/-- What the sort leaves. -/
def Sorted (w : World) (base : Nat) (A : Option Addr) (n c : Nat) (rs : List (Int × Int)) (e : Ending) (w' : World) : Prop :=
  e = .returned (.tuple #[]) ∧ ∃ ds : List (Int × Int), ds.Perm rs ∧ (ds.Pairwise fun a b => a.1 ≤ b.1) ∧ w'.ownsRow base 41 2 (.slice A n c) n (rcells ds) ∧ w.grownBy w' (Value.slice A n c).ownBlock
theorem code_sort (A : Option Addr) (n c : Nat) (rs : List (Int × Int)) (w : World) (base : Nat) (hown : w.ownsRow base 41 2 (.slice A n c) n (rcells rs)) (hl : rs.length = n) (h0 : ¬ n = 0) (hn : n ≤ 4611686018427387903) :
    Calls Tryz.prog 49 #[.slice A n c, .func (.func 50) #[] #[]] w (Sorted w base A n c rs) := by
  obtain ⟨g, rfl⟩ : ∃ g, A = some ⟨g, 0, none⟩ := by
    rcases hown.2 with ⟨_, h⟩ | ⟨g, cap, cur, h, _⟩
    · exact absurd h h0
    · injection h with e1; exact ⟨g, e1⟩
  obtain ⟨L, hL, hbg, hnc, hcm, hLl, hxs⟩ := own_whole hown
  have eg : ∀ args w, (callFunc 50 args).run Tryz.prog w = .ok (.enter 50 args) w := enters_of Tryz.func50 (by kernel_rfl) rfl
  have hd : rs.toArray.size = n := by simpa using hl
  have hH : HoldsK encR 2 w g 0 rs.toArray := holds_rw (n := n) hL rs.toArray (by rw [hd, ← hxs])
  have h := AnyQ.slices_SortFunc Tryz.sortRuns 2 Tryz.isAgg41 Tryz.sizeOf41 encR (fun _ => rfl) (fun x v hv => by simp [encR] at hv; rcases hv with rfl | rfl <;> rfl) (fun x y => Lib.compareInt x.1 y.1) swo_start 50 #[] g 0 c rs.toArray w eg
    (fun _ _ _ _ x y => code_cmp x y _) hH hL.lt (by omega)
  rw [hd] at h
  change Calls Tryz.prog 49 _ _ _ at h
  refine h.mono ?_
  rintro e w' ⟨he, d', m, os, ⟨hp1, _, hp3⟩, hs, rfl⟩
  have hdn : d'.size = n := by rw [hp1, hd]
  obtain ⟨r1, r2⟩ := put_rw hL m d' os (by rw [hdn, hLl]; exact Nat.mul_le_mul_right 2 hnc)
  refine ⟨he, d'.toList, ?_, ?_, ?_, r2⟩
  · have e1 : d'.extract 0 n = d' := by rw [← hdn]; exact Array.extract_size
    have e2 : rs.toArray.extract 0 n = rs.toArray := by rw [← hd]; exact Array.extract_size
    rw [e1, e2] at hp3
    exact hp3
  · rw [List.pairwise_iff_getElem]
    intro i j hi hj hij
    have hi' : i < d'.size := by simpa using hi
    have hj' : j < d'.size := by simpa using hj
    have := hs i j (Nat.zero_le _) hij (by omega)
    rw [getElem!_pos d' j hj', getElem!_pos d' i hi', lt_start] at this
    have := of_decide_eq_false this
    simp only [Array.getElem_toList]
    omega
  · have h2 := own_of_whole (base := base) (s := 2) (n := n) (c := c) r1 hbg hnc hcm (by simp [rcells_length, hdn, hLl]; omega)
    rw [List.take_left' (by rw [rcells_length]; simp [hdn])] at h2
    exact h2

end Go.Proofs.YtcngcibiibchiaaGreat
