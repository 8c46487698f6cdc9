/- Flush of caches. -/
import Derived.Test.YtlcdgmjinhbncaaGreatPCacheFlush1
import Derived.Test.YtlcdgmjinhbncaaGreatPCacheFlush1
namespace Go.Proofs.YtlcdgmjinhbncaaGreat
open Go.RowKit Go.Maps
set_option linter.unusedVariables false

/-- One list is emptied, to the last word: the pool, the lists. -/
def caFl1 (s : PoolV × List (List Int)) (i : Nat) : PoolV × List (List Int) := ((caEmpty 0 ((i % 4 : Nat) : Int) s.1 (s.2.getD i [])).1, s.2.set i (caEmpty 0 ((i % 4 : Nat) : Int) s.1 (s.2.getD i [])).2)
/-- A processor's lists. -/
def caFlO (p o : Nat) (s : PoolV × List (List Int)) : PoolV × List (List Int) := (List.range o).foldl (fun s o => caFl1 s (4 * p + o)) s
theorem caFlO_step (p o : Nat) (s : PoolV × List (List Int)) : caFlO p (o + 1) s = caFl1 (caFlO p o s) (4 * p + o) := by
  unfold caFlO
  rw [List.range_succ, List.foldl_append]; rfl
def caFlP (s : PoolV × List (List Int)) (x : Int) : PoolV × List (List Int) := caFlO x.toNat 4 s

/-- Where Flush stands. -/
structure FlSt (F : CaF) (w W : World) (S : Nat → Prop) (A : Option Addr) (n : Nat) (xs : List Int) (tb k : Nat) (pages : Int) (X : PoolV × List (List Int)) (S' : Nat → Prop) (u : PoolW) (cs : List CL) (wr : World) : Prop where
  st : CaSt F w wr S' u cs k pages
  row : RowK wr S' A n (xs.map iv)
  box : wr.cell? ⟨tb, 0, none⟩ = some (.pointer (some ⟨F.q, 0, none⟩)) ∧ ¬ S' tb ∧ tb < wr.heap.size
  side : SideP S W S' wr
  eq : (u.plain, cs.map (·.2)) = X
section
variable {F : CaF} {w W : World} {S S' : Nat → Prop} {A : Option Addr} {n : Nat} {xs : List Int} {tb k : Nat} {pages : Int} {X : PoolV × List (List Int)} {u : PoolW} {cs : List CL} {wr wr' : World}
theorem FlSt.below (h : FlSt F w W S A n xs tb k pages X S' u cs wr) (hb : Below wr.heap.size wr wr') : FlSt F w W S A n xs tb k pages X S' u cs wr' :=
  ⟨h.st.below hb, h.row.side (SideP.below hb), ⟨(hb.cell (p := ⟨tb, 0, none⟩) h.box.2.2).trans h.box.1, h.box.2.1, Nat.lt_of_lt_of_le h.box.2.2 hb.size⟩, h.side.trans (SideP.below hb), h.eq⟩
theorem FlSt.step (h : FlSt F w W S A n xs tb k pages X S' u cs wr) {i : Nat} (hi : i < cs.length) (o : Nat) (ho : o < 4) (hio : i % 4 = o) :
    Calls Tryz.prog 107 #[.pointer (some ⟨F.q, 0, none⟩), .pointer (some ⟨F.rb, 2 * i, none⟩), .int .i64 o, .int .i64 0] wr fun e w' => e = .returned (.tuple #[]) ∧ ∃ S2 u2 cs2, Hid (FlSt F w W S A n xs tb k pages (caFl1 X i) S2 u2 cs2 w') := by
  obtain ⟨⟨c, l⟩, hd⟩ : ∃ d, cs[i]? = some d := ⟨_, List.getElem?_eq_getElem hi⟩
  have ce := c_empty h.st hd o ho hio 0 (by omega)
  have ce' : Calls Tryz.prog 107 #[.pointer (some ⟨F.q, 0, none⟩), .pointer (some ⟨F.rb, 2 * i, none⟩), .int .i64 o, .int .i64 0] wr _ := ce
  refine ce'.mono ?_
  rintro e w' ⟨rfl, S2, u2, c2, k1, k2, k3, _⟩
  have hb := k3.1.block tb h.box.2.2 h.box.2.1
  refine ⟨rfl, S2, u2, _, hidb ⟨k1, h.row.side k3, ⟨(World.cell?_of_block (w := wr) (a := ⟨tb, 0, none⟩) hb).trans h.box.1, k3.not h.box.2.2 h.box.2.1, Nat.lt_of_lt_of_le h.box.2.2 k3.1.size⟩, h.side.trans k3, ?_⟩⟩
  have hx := h.eq
  have hl : (cs.map (·.2)).getD i [] = l := by
    rw [List.getD_eq_getElem?_getD, List.getElem?_map, hd]; rfl
  subst hx
  unfold caFl1
  simp only
  rw [hl, hio, k2, List.map_set]
end

section
variable {F : CaF} {w W : World} {S : Nat → Prop} {v : PoolW} {cs : List CL} {k : Nat} {pages : Int}
theorem c_flush_ask (s : CaSt F w W S v cs k pages) (A : Option Addr) (n c : Nat) (xs : List Int) (hr : Sl W W.heap.size A n (xs.map iv)) (hn : n ≤ 10000) (W0 : World) (hW0 : W0 = W.alloc (.cells #[.pointer (some ⟨F.q, 0, none⟩)] 62)) (b : Bool) (hb : b = (List.range n).any fun j => decide (xs.getD j 0 < 0 ∨ (F.N : Int) ≤ xs.getD j 0)) :
    Calls Tryz.prog 103 #[.slice A n c, .func (.func 109) #[] #[.pointer (some ⟨W.heap.size, 0, none⟩)]] W0 fun e w' => e = .returned (.bool b) ∧ Below W.heap.size W w' ∧ w'.cell? ⟨W.heap.size, 0, none⟩ = some (.pointer (some ⟨F.q, 0, none⟩)) ∧ W.heap.size < w'.heap.size := by
  have hB : Below W.heap.size W W0 := by rw [hW0]; exact (Below.refl _ _).alloc (Nat.le_refl _) _
  have t2 : W0.cell? ⟨W.heap.size, 0, none⟩ = some (.pointer (some ⟨F.q, 0, none⟩)) := by rw [hW0]; exact World.cell?_alloc_at _ _ _ 0 (by simp)
  have hlt : W.heap.size < W0.heap.size := lt_of_cell t2
  have hs0 := (hr.below hB).more hB.size
  have c1 := code_cf_has (t := W.heap.size) (fun j => decide (xs.getD j 0 < 0 ∨ (F.N : Int) ≤ xs.getD j 0)) (fun _ X => Below W0.heap.size W0 X) A n c xs W0 (Below.refl _ _) (fun j X hb => (hs0.below hb).more hb.size) (fun j z X hz hb => by
    have hz2 : xs.getD j 0 = z := by rw [List.getD_eq_getElem?_getD, hz]; rfl
    rw [hz2]
    exact (c_flush1 ((s.below hB).below hb) W.heap.size z ((hb.cell (p := ⟨W.heap.size, 0, none⟩) hlt).trans t2) _ rfl).mono fun e w' ⟨h1, h2⟩ => ⟨h1, hb.trans (h2.mono hb.size)⟩) (by omega)
  rw [← hb] at c1
  exact c1.mono fun e w' ⟨h1, j, _, h2⟩ => ⟨h1, hB.trans (h2.mono hB.size), (h2.cell (p := ⟨W.heap.size, 0, none⟩) hlt).trans t2, Nat.lt_of_lt_of_le hlt h2.size⟩
def Flushed (F : CaF) (w W : World) (S : Nat → Prop) (k : Nat) (pages : Int) (X : PoolV × List (List Int)) (e : Ending) (w' : World) : Prop :=
  e = .returned (.int .i64 0) ∧ ∃ S' u cs', CaSt F w w' S' u cs' k pages ∧ SideP S W S' w' ∧ (u.plain, cs'.map (·.2)) = X
set_option maxHeartbeats 2000000 in
theorem c_flush (s : CaSt F w W S v cs k pages) (A : Option Addr) (n c : Nat) (xs : List Int) (hr : RowK W S A n (xs.map iv)) (hn : n ≤ 10000) (hx : ∀ x ∈ xs, 0 ≤ x ∧ x < (F.N : Int)) :
    Calls Tryz.prog 42 #[.pointer (some ⟨F.q, 0, none⟩), .slice A n c] W (Flushed F w W S k pages (xs.foldl caFlP (v.plain, cs.map (·.2)))) := by
  obtain ⟨W0, hW0⟩ : ∃ W0, W0 = W.alloc (.cells #[.pointer (some ⟨F.q, 0, none⟩)] 62) := ⟨_, rfl⟩
  have hln : xs.length = n := by have := hr.1.1; simpa using this
  have hb : ((List.range n).any fun j => decide (xs.getD j 0 < 0 ∨ (F.N : Int) ≤ xs.getD j 0)) = false := by
    rw [List.any_eq_false]
    intro j hj
    have hj2 := List.mem_range.1 hj
    have h1 : xs.getD j 0 ∈ xs := by
      rw [List.getD_eq_getElem?_getD, List.getElem?_eq_getElem (by omega)]
      exact List.getElem_mem _
    have := hx _ h1
    simp only [decide_eq_true_eq]
    omega
  have c2 := c_flush_ask s A n c xs hr.1 hn W0 hW0 false hb.symm
  have HW0 := hidb hW0
  have HX := hidb hx
  have HN16 := s.n1.2
  obtain ⟨X0, hX0⟩ : ∃ X0, (v.plain, cs.map (·.2)) = X0 := ⟨_, rfl⟩
  have H0 : Hid (∀ w1, Below W.heap.size W w1 → w1.cell? ⟨W.heap.size, 0, none⟩ = some (.pointer (some ⟨F.q, 0, none⟩)) → W.heap.size < w1.heap.size → FlSt F w W S A n xs W.heap.size k pages X0 S v cs w1) := hidb (fun w1 h1 h2 h3 => ⟨s.below h1, hr.side (SideP.below h1), ⟨h2, fun h => by have := s.lt _ h; omega, h3⟩, SideP.below h1, hX0⟩)
  obtain ⟨tb, htb⟩ : ∃ tb, Hid (W.heap.size = tb) := ⟨_, hidb rfl⟩
  rw [hX0]
  clear s hr hb hW0 hx hX0
  go_enter Tryz.func42, Tryz.ntmps42
  go_wp2_with (first
    | (go_at_call 103; rw [← HW0.out]; (with_reducible refine c2.mono ?_); rintro e w1 ⟨rfl, hb1, hc1, hz1⟩; have P := hidb (H0.out _ hb1 hc1 hz1); clear hb1 hc1 hz1))
  clear c2 HW0 H0
  rw [htb.out] at P ⊢
  clear htb
  go_loopw [6, 7, 13, 17] (fun _ _ v13 _ wr => ∃ (j : Nat) (S' : Nat → Prop) (u : PoolW) (cs' : List CL), j ≤ n ∧ v13 = .int .i64 j ∧ Hid (FlSt F w W S A n xs tb k pages ((xs.take j).foldl caFlP X0) S' u cs' wr)) (fun _ _ v13 _ _ => (n - intOf v13).toNat)
  case atStart => exact ⟨0, S, v, cs, Nat.zero_le _, rfl, P⟩
  case round =>
    obtain ⟨j, S', u, cs', hj, rfl, HS⟩ := hrel
    by_cases hlt : j < n
    · obtain ⟨wo, rfl⟩ : ∃ wo : World, wo = wr := ⟨_, rfl⟩
      obtain ⟨b, off, x, rfl, hx, hc⟩ := HS.out.row.1.int_ hlt
      have hxr := HX.out x (List.mem_of_getElem? hx)
      obtain ⟨xn, rfl⟩ : ∃ xn : Nat, x = xn := ⟨x.toNat, by omega⟩
      have hxn : xn < F.N := by omega
      have hi0 : (0 : Int) ≤ (j : Int) := by omega
      have hi1 : (j : Int) < (n : Int) := by omega
      have HST : Hid ((xs.take (j + 1)).foldl caFlP X0 = caFlO xn 4 ((xs.take j).foldl caFlP X0)) := hidb (by
        rw [List.take_add_one, hx, List.foldl_append]
        rfl)
      obtain ⟨Xj, hXj⟩ : ∃ Xj, (xs.take j).foldl caFlP X0 = Xj := ⟨_, rfl⟩
      rw [hXj] at HS HST
      clear hx hxr hXj
      go_wp2
      clear hc
      go_loopw [7, 17] (fun _ v17 wr2 => ∃ (o : Nat) (S2 : Nat → Prop) (u2 : PoolW) (cs2 : List CL), o ≤ 4 ∧ v17 = .int .i64 o ∧ Hid (FlSt F w W S (some ⟨b, off, none⟩) n xs tb k pages (caFlO xn o Xj) S2 u2 cs2 wr2)) (fun _ v17 _ => (4 - intOf v17).toNat)
      case atStart => exact ⟨0, S', u, cs', by omega, rfl, HS⟩
      case round =>
        obtain ⟨o, S2, u2, cs2, ho, rfl, HO⟩ := hrel
        by_cases hlo : o < 4
        · have t4 := HO.out.box.1
          have hil : 4 * xn + o < cs2.length := by rw [HO.out.st.len]; omega
          have cl : ∀ X, Below wr.heap.size wr X → Calls Tryz.prog 96 #[.pointer (some ⟨F.q, 0, none⟩), .int .i64 xn, .int .i64 o] X fun e w' => e = .returned (.pointer (some ⟨F.rb, 2 * (4 * xn + o), none⟩)) ∧ w'.cell? ⟨tb, 0, none⟩ = some (.pointer (some ⟨F.q, 0, none⟩)) ∧ Below wr.heap.size wr w' := fun X hb => (c_list (HO.out.st.below hb) xn o hxn hlo).mono fun e w' ⟨h1, h2⟩ => ⟨h1, (HO.out.below (hb.trans (h2.mono hb.size))).box.1, hb.trans (h2.mono hb.size)⟩
          have ce : ∀ X, Below wr.heap.size wr X → Calls Tryz.prog 107 #[.pointer (some ⟨F.q, 0, none⟩), .pointer (some ⟨F.rb, 2 * (4 * xn + o), none⟩), .int .i64 o, .int .i64 0] X fun e w' => e = .returned (.tuple #[]) ∧ ∃ S3 u3 cs3, Hid (FlSt F w W S (some ⟨b, off, none⟩) n xs tb k pages (caFlO xn (o + 1) Xj) S3 u3 cs3 w') := fun X hb => by
            rw [caFlO_step]
            exact (HO.out.below hb).step hil o hlo (by omega)
          have hB : Below wr.heap.size wr wr := Below.refl _ _
          have ho0 : (o : Int) < 4 := by omega
          clear HS HO hil
          --@2
          go_wp2
          go_region_law (first
            | (go_simp; go_at_call 96; (with_reducible refine (cl _ (by first | exact hB | exact hB.drew)).mono ?_); rintro e w5 ⟨rfl, t4, hB⟩)
            | (go_simp; go_at_call 107; (with_reducible refine (ce _ (by first | exact hB | exact hB.drew)).mono ?_); rintro e w6 ⟨rfl, S3, u3, cs3, HF⟩))
          all_goals go_wp2
          all_goals go_roundw
          all_goals first
            | exact ⟨o + 1, S3, u3, cs3, by omega, by go_num, HF⟩
            | (simp [intOf]; omega)
        · obtain rfl : o = 4 := by omega
          rw [← HST.out] at HO
          --@3
          go_wp2
          go_roundw
          case rel => exact ⟨j + 1, S2, u2, cs2, by omega, by go_num, HO⟩
          case measure => simp [intOf]; omega
    · obtain rfl : j = n := by omega
      have HEND : Hid (Flushed F w W S k pages (xs.foldl caFlP X0) (.returned (.int .i64 0)) wr) := hidb (by
        have h := HS.out.eq
        rw [← hln, List.take_length] at h
        exact ⟨rfl, S', u, cs', HS.out.st, HS.out.side, h⟩)
      clear HS
      --@4
      go_wp2
      go_ret
      exact HEND.out
end
end Go.Proofs.YtlcdgmjinhbncaaGreat
