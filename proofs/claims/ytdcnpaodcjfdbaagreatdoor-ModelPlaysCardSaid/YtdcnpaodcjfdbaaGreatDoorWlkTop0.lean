/- Layer 15's statement WalkTop: functions of any number and size, as they come in; how frames hang together. -/
import Derived.Test.YtdcnpaodcjfdbaaGreatDoorWlkIs
import Derived.Test.YtdcnpaodcjfdbaaGreatDoorWlkAll
import Derived.Deep.SlicePairs
namespace Go.Proofs.YtdcnpaodcjfdbaaGreatDoor
open Go.RowKit Go.ChangeShapes Go.WideShapes
set_option linter.unusedVariables false

/-- Too many functions. -/
theorem code_fNew_big (A : Option Addr) (n c : Nat) (w : World) (h : 100 < n) (hm : n ≤ 9223372036854775807) :
    Calls Tryz.prog 4 #[.slice A n c] w fun e w' => e = .returned (.tuple #[.pointer none, .int .i64 1]) ∧ Below w.heap.size w w' := by
  have g1 : (1 : Int) ≤ (n : Int) := by omega
  have g2 : (100 : Int) < (n : Int) := by omega
  clear h hm
  go_enter Tryz.func4, Tryz.ntmps4
  go_wp2
  go_ret2
  exact ⟨rfl, Below.refl _ _⟩

section
variable {H : Type} {enc : TypeId × Value → H} {W : World} {sp : Nat → Bool} {hd : Bool}
theorem weights_mem {P : Program} {e : TypeId} {r : Nat} : ∀ (l : List (DataW H)) (d : DataW H), d ∈ l → (DataW.weightsAll P e l).all (· ≤ r) = true → (d.weights P e).all (· ≤ r) = true
  | [], d, h, _ => by cases h
  | x :: l, d, h, hw => by
    rw [DataW.weightsAll, List.all_append, Bool.and_eq_true] at hw
    rcases List.mem_cons.1 h with rfl | h
    · exact hw.1
    · exact weights_mem l d h hw.2
theorem bytes_u64 : Tryz.prog.bytesOf 32 = 8 := by kernel_rfl
/-- A row of words, with what it weighs. -/
theorem words_weigh {fuel : Nat} {c : Value} {x : DataW H × List MemPlace} (h : DataW.trod enc Tryz.prog W 0 sp hd fuel 51 [c] = some x) (hw : (x.1.weights Tryz.prog 51).all (· ≤ reachBytes) = true) (A : Option Addr) (n k : Nat) (hc : c = .slice A n k) : n ≤ 17592186044416 := by
  rcases open_ints Tryz.underlying51 Tryz.underlying32 fr_u64 h with ⟨e, _⟩ | ⟨a, len, cap, zs, e, _, hl, hm, hz, hx, _, _⟩
  · rw [hc] at e
    injection e with e
    injection e with _ e
    omega
  · rw [hc] at e
    injection e with e
    injection e with _ e
    subst hx
    simp only [DataW.weights, Tryz.underlying51, List.all_cons, Bool.and_eq_true, decide_eq_true_eq, bytes_u64] at hw
    have h1 := hw.1
    simp only [lits, List.length_map, List.length_take, List.length_drop] at h1
    have h2 : reachBytes = 140737488351232 := rfl
    have h3 : len ≤ zs.length := by rw [hz]; split <;> omega
    omega
/-- Functions that came in, each of them in reach. -/
theorem read_fnsW {v : Value} {d : DataW H} {ps : List MemPlace} (h : DataW.Trod enc Tryz.prog W 0 sp hd 22 v d ps) (hw : (d.weights Tryz.prog 22).all (· ≤ reachBytes) = true) :
    ∃ (A : Option Addr) (len cap : Nat) (ys : List FnV), v.cells.toList = [.slice A len cap] ∧ len ≤ maxLen ∧ (FnRow W 0 W.heap.size A len ys ∧ ∀ y ∈ ys, y.n ≤ 17592186044416) := by
  obtain ⟨A, len, cap, ys, e, hm, hr⟩ := read_fns h
  refine ⟨A, len, cap, ys, e, hm, hr, fun y hy => ?_⟩
  obtain ⟨j, hj, rfl⟩ := List.getElem_of_mem hy
  have hjn : j < len := by have := hr.len; omega
  obtain ⟨b, off, y, rfl, _, hyj, _, hc1, _⟩ := hr.at_ hjn
  rw [List.getElem?_eq_getElem hj] at hyj
  obtain rfl := Option.some.inj hyj
  obtain ⟨fuel, hf⟩ := h
  rw [e] at hf
  rcases Go.Deep.open_slice_pairs Tryz.underlying22 Tryz.underlying53 fr_cells rfl rfl fr_int fr_words hf with ⟨e1, _⟩ | ⟨a, len', cap', m, n, V0, V1, D0, D1, P0, P1, e1, _, hl, hcm, hmm, hx, hel⟩
  · injection e1 with e1; injection e1 with e1; cases e1
  · injection e1 with e1
    injection e1 with e1 e2 e3
    injection e1 with e1
    subst e1 e2
    have hlm : len ≤ m := by rw [hmm]; split <;> omega
    obtain ⟨_, h1, _, h3⟩ := hel j (by omega)
    rw [Go.WideShapes.add_plain, ← Nat.add_assoc, hc1] at h1
    have hd : d = .slice ((List.range len).map fun i => .agg [D0 i, D1 i]) ((List.range (m - len)).map fun j => .agg [D0 (len + j), D1 (len + j)]) := congrArg Prod.fst hx
    rw [hd] at hw
    simp only [DataW.weights, Tryz.underlying22, List.all_cons, List.all_append, Bool.and_eq_true] at hw
    have h4 := weights_mem _ _ (List.mem_map.2 ⟨j, List.mem_range.2 hjn, rfl⟩) hw.2.1
    simp only [DataW.weights, Tryz.underlying53, List.map_cons, List.map_nil, DataW.weightsEach, List.all_append, Bool.and_eq_true] at h4
    exact words_weigh h3 h4.2.1 _ _ _ (Option.some.inj h1).symm
end

/-- How frames hang together, one by one. -/
theorem Con.at_ {l : Fns} : ∀ {L : List FrV}, Con l L → ∀ (d : Nat) (x y : FrV), L[d]? = some x → L[d + 1]? = some y → y.link = x.at_ ∧ wkEnd l y = x.at_
  | [], _, d, x, y, h, _ => by cases h
  | [z], _, d, x, y, _, h => by simp at h
  | z :: z2 :: r, hc, 0, x, y, h1, h2 => by
    simp at h1 h2
    subst h1 h2
    exact ⟨hc.1, hc.2.1⟩
  | z :: z2 :: r, hc, d + 1, x, y, h1, h2 => hc.2.2.at_ d x y (by simpa using h1) (by simpa using h2)
/-- What the walk's frames are. -/
structure Tops (l : Fns) (hi sp : Int) (L : List FrV) : Prop where
  con : Con l L
  head : ∀ y, L[0]? = some y → wkEnd l y = hi ∧ y.link = -1
  last : ∀ y, L[L.length - 1]? = some y → y.at_ = sp
  near : ∀ y ∈ L, frNear y ∧ frEnd l y = wkEnd l y
theorem wkFrames_tops {xs : List Nat} {l : Fns} (hl : ∀ x ∈ l, 0 ≤ x.1 ∧ x.1 ≤ 1000) (hn : xs.length = 256) {s : StV} {L : List FrV} (h : wkFrames xs l s = (L, 0)) : Tops l (s.lo + s.size) s.sp L := by
  unfold wkFrames at h
  split at h
  · injection h with _ h; exact absurd h (by decide)
  · rename_i hm
    have hf := wkGo_few (l := l) (xs := xs) (s := s) (by simpa using hm)
    split at h
    · injection h with _ h; exact absurd h (by decide)
    · rename_i f hf2
      injection h with h
      subst h
      obtain ⟨h1, h2, _, h4, h5⟩ := wkGo_top hl _ _ _ _ hf2 hf.2.2.2.1 True.intro (fun y hy => by cases hy)
      refine ⟨h1, fun y hy => h2 y (by rw [List.head?_eq_getElem?]; exact hy), fun y hy => h4 rfl y (by rw [List.getLast?_eq_getElem?]; exact hy), fun y hy => ?_⟩
      rcases h5 y hy with h6 | ⟨h6, h7⟩
      · cases h6
      · have hg := frRead_good hl (a := y.at_) (xs := xs) (by rw [h6])
        rw [h6] at hg
        simp only at hg
        obtain ⟨q1, _, _, _, q5, _, q7, _, _⟩ := hg
        refine ⟨by unfold frNear; omega, ?_⟩
        unfold frEnd wkEnd
        rw [if_neg (by omega)]
end Go.Proofs.YtdcnpaodcjfdbaaGreatDoor
