/- Layer 11 plainly: all lists are flushed. -/
import Derived.Test.YtlcdgmjinhbncaaGreatPCacheFlush1
import Derived.Test.YtlcdgmjinhbncaaGreatPCacheFlush2
import Derived.Test.YtlcdgmjinhbncaaGreatPPoolReads2
namespace Go.Proofs.YtlcdgmjinhbncaaGreat
set_option linter.unusedVariables false

def asC (ls : List (List Int)) : List CL := ls.map fun l => ((0, 0), l)
theorem asC_set (ls : List (List Int)) (i : Nat) (l : List Int) : asC (ls.set i l) = (asC ls).set i ((0, 0), l) := by unfold asC; rw [List.map_set]
theorem asC_at {ls : List (List Int)} {i : Nat} {l : List Int} (h : ls[i]? = some l) : (asC ls)[i]? = some ((0, 0), l) := by unfold asC; rw [List.getElem?_map, h]; rfl
theorem EndC.lists {P : (Int × Int × Int × Int) → Prop} {p : PoolV} {cs cs' : List CL} {O : List Int} (e : cs.map (·.2) = cs'.map (·.2)) (k : EndC P p cs O) : EndC P p cs' O := by
  have q : ∀ {a b : List CL}, a.map (·.2) = b.map (·.2) → ∀ d ∈ a, ∃ d' ∈ b, d'.2 = d.2 := fun {a b} e d hd => by
    have h : d.2 ∈ b.map (·.2) := by rw [← e]; exact List.mem_map.2 ⟨d, hd, rfl⟩
    obtain ⟨d', h1, h2⟩ := List.mem_map.1 h
    exact ⟨d', h1, h2⟩
  refine ⟨k.tidy, fun x q' h => ?_, fun x hx => ⟨(k.out x hx).1, fun d hd hxd => ?_⟩, k.nod⟩
  · rcases k.cov x q' h with h1 | ⟨d, hd, hx⟩
    · exact Or.inl h1
    · obtain ⟨d', h1, h2⟩ := q e d hd
      exact Or.inr ⟨d', h1, by rw [h2]; exact hx⟩
  · obtain ⟨d', h1, h2⟩ := q e.symm d hd
    exact (k.out x hx).2 d' h1 (by rw [h2]; exact hxd)
theorem asC_snd (ls : List (List Int)) : (asC ls).map (·.2) = ls := by unfold asC; rw [List.map_map]; exact List.map_id _
/-- Lists of blocks that are out. -/
structure LsOk (p : PoolV) (ls : List (List Int)) : Prop where
  out : ∀ (i : Nat) l, ls[i]? = some l → ∀ x ∈ l, OutQ p.l x ((i % 4 : Nat) : Int)
  nod : ∀ l ∈ ls, l.Nodup
  apart : ∀ (i j : Nat) l m, ls[i]? = some l → ls[j]? = some m → i ≠ j → ∀ x ∈ l, x ∉ m
section
variable {P : (Int × Int × Int × Int) → Prop} {O : List Int}
theorem fl_step {X : PoolV × List (List Int)} (h : LsOk X.1 X.2) (k : EndC P X.1 (asC X.2) O) {i : Nat} (hi : i < X.2.length) : LsOk (caFl1 X i).1 (caFl1 X i).2 ∧ EndC P (caFl1 X i).1 (asC (caFl1 X i).2) O ∧ (caFl1 X i).2[i]? = some [] ∧ (∀ j, j ≠ i → (caFl1 X i).2[j]? = X.2[j]?) ∧ (caFl1 X i).2.length = X.2.length := by
  obtain ⟨p, ls⟩ := X
  simp only at h k hi ⊢
  obtain ⟨l, hl⟩ : ∃ l, ls[i]? = some l := ⟨_, List.getElem?_eq_getElem hi⟩
  have hd : ls.getD i [] = l := by rw [List.getD_eq_getElem?_getD, hl]; rfl
  have e : caFl1 (p, ls) i = ((caEmpty 0 ((i % 4 : Nat) : Int) p l).1, ls.set i (caEmpty 0 ((i % 4 : Nat) : Int) p l).2) := by unfold caFl1; simp only; rw [hd]
  rw [e]
  obtain ⟨R, hR⟩ : ∃ R, caEmpty 0 ((i % 4 : Nat) : Int) p l = R := ⟨_, rfl⟩
  rw [hR]
  have hlo := h.out i l hl
  have hln := h.nod l (List.mem_of_getElem? hl)
  obtain ⟨k1, k2⟩ := k.flush (asC_at hl) (0, 0) ((i % 4 : Nat) : Int) hlo hln hR
  obtain ⟨q1, q2, q3, q4⟩ := k.tidy.empty 0 l hlo hln
  rw [hR] at q1 q2 q3 q4
  have hget : ∀ j m, (ls.set i R.2)[j]? = some m → (j = i ∧ m = []) ∨ (j ≠ i ∧ ls[j]? = some m) := fun j m hj => by
    by_cases e : i = j
    · subst e
      rw [List.getElem?_set_self hi] at hj
      exact Or.inl ⟨rfl, by rw [← Option.some.inj hj, k2]⟩
    · rw [List.getElem?_set_ne e] at hj
      exact Or.inr ⟨fun h => e h.symm, hj⟩
  refine ⟨⟨fun j m hj x hx => ?_, fun m hm => ?_, fun j j' m m' hj hj' hne x hx => ?_⟩, by rw [asC_set]; exact k1, by rw [List.getElem?_set_self hi, k2], fun j hj => List.getElem?_set_ne (Ne.symm hj), List.length_set ..⟩
  · rcases hget j m hj with ⟨_, rfl⟩ | ⟨h1, h2⟩
    · cases hx
    · exact q3 x _ (h.out j m h2 x hx) fun hxl => absurd hxl (h.apart j i m l h2 hl h1 x hx)
  · obtain ⟨j, hj⟩ := List.getElem?_of_mem hm
    rcases hget j m hj with ⟨_, rfl⟩ | ⟨_, h2⟩
    · exact List.nodup_nil
    · exact h.nod m (List.mem_of_getElem? h2)
  · rcases hget j m hj with ⟨_, rfl⟩ | ⟨h1, h2⟩
    · cases hx
    · rcases hget j' m' hj' with ⟨_, rfl⟩ | ⟨h3, h4⟩
      · simp
      · exact h.apart j j' m m' h2 h4 hne x hx
/-- The first lists are empty. -/
structure FlOk (P : (Int × Int × Int × Int) → Prop) (O : List Int) (N m : Nat) (X : PoolV × List (List Int)) : Prop where
  ok : LsOk X.1 X.2
  ec : EndC P X.1 (asC X.2) O
  nil : ∀ j, j < m → X.2[j]? = some []
  len : X.2.length = 4 * N
theorem FlOk.one {N m : Nat} {X : PoolV × List (List Int)} (h : FlOk P O N m X) (hm : m < 4 * N) : FlOk P O N (m + 1) (caFl1 X m) := by
  obtain ⟨k1, k2, k3, k4, k5⟩ := fl_step h.ok h.ec (i := m) (by rw [h.len]; exact hm)
  refine ⟨k1, k2, fun j hj => ?_, k5.trans h.len⟩
  by_cases e : j = m
  · subst e; exact k3
  · rw [k4 j e]; exact h.nil j (by omega)
theorem FlOk.proc {N p : Nat} {X : PoolV × List (List Int)} (h : FlOk P O N (4 * p) X) (hp : p < N) : ∀ o, o ≤ 4 → FlOk P O N (4 * p + o) (caFlO p o X)
  | 0, _ => h
  | o + 1, ho => by
    rw [caFlO_step]
    exact (FlOk.proc h hp o (by omega)).one (by omega)
theorem FlOk.all {N : Nat} {X : PoolV × List (List Int)} (h : FlOk P O N 0 X) : ∀ n, n ≤ N → FlOk P O N (4 * n) (((List.range n).map fun i : Nat => (i : Int)).foldl caFlP X)
  | 0, _ => h
  | n + 1, hn => by
    rw [List.range_succ, List.map_append, List.foldl_append]
    exact (FlOk.all h n (by omega)).proc (by omega) 4 (by omega)
end
section
variable {F : CaF} {w W : World} {S : Nat → Prop} {v : PoolW} {cs : List CL} {k : Nat} {pages : Int} {P : (Int × Int × Int × Int) → Prop} {O : List Int}
theorem CaSt.lists (s : CaSt F w W S v cs k pages) (e : EndC P v.plain cs O) : FlOk P O F.N 0 (v.plain, cs.map (·.2)) := by
  have hget : ∀ (i : Nat) l, (cs.map (·.2))[i]? = some l → ∃ c, cs[i]? = some (c, l) := fun i l h => by
    rw [List.getElem?_map] at h
    obtain ⟨d, hd, rfl⟩ := Option.map_eq_some_iff.1 h
    exact ⟨d.1, hd⟩
  refine ⟨⟨fun i l hl => ?_, fun l hl => ?_, fun i j l m hl hm hne => ?_⟩, e.lists (by rw [asC_snd]), fun j hj => absurd hj (Nat.not_lt_zero _), by rw [List.length_map]; exact s.len⟩
  · obtain ⟨c, hc⟩ := hget i l hl
    exact s.ok.out i _ hc
  · obtain ⟨d, hd, rfl⟩ := List.mem_map.1 hl
    exact (s.nodup hd).2.2.2.2.1
  · obtain ⟨c, hc⟩ := hget i l hl
    obtain ⟨d, hd⟩ := hget j m hm
    exact s.ok.apart i j _ _ hc hd hne
end
end Go.Proofs.YtlcdgmjinhbncaaGreat
/- Layer 11's statement on the end: what each step of it leaves. -/
namespace Go.Proofs.YtlcdgmjinhbncaaGreat
open Go.RowKit
set_option linter.unusedVariables false

theorem no_spansC {h : HeapV} (k : HOk h) (hl : h.l = []) : fList h.free = [(0, h.pages)] ∧ hSpans h = [] := by
  refine ⟨k.ends hl, ?_⟩
  cases e : hSpans h with
  | nil => rfl
  | cons s l =>
    have := (hSpans_mem k s).1 (by rw [e]; exact List.mem_cons_self ..)
    rw [hl] at this; cases this
/-- A row of numbers that the law itself made, outside of S. -/
structure RowE (w W : World) (S : Nat → Prop) (b n c : Nat) (xs : List Int) : Prop where
  row : W.ownsRow 0 3 1 (.slice (some ⟨b, 0, none⟩) n c) n (xs.map iv)
  ap : ¬ S b ∧ w.heap.size ≤ b
section
variable {F : CaF} {w W W' : World} {S S' : Nat → Prop} {v : PoolW} {cs : List CL} {k : Nat} {pages : Int} {b n c : Nat} {xs : List Int}
theorem RowE.lt (r : RowE w W S b n c xs) : b < W.heap.size := (r.row.lt b rfl).2
theorem RowE.side (r : RowE w W S b n c xs) (sd : SideP S W S' W') : RowE w W' S' b n c xs := ⟨own_kept r.row sd.1 (fun q hq => by
    have : b = q := by injection hq
    rw [← this]; exact r.ap.1), sd.not r.lt r.ap.1, r.ap.2⟩
theorem RowE.rowK (r : RowE w W S b n c xs) : RowK W S (some ⟨b, 0, none⟩) n (xs.map iv) := ⟨Sl.of_own r.row, fun _ a e => by obtain rfl := Option.some.inj e; exact ⟨r.ap.1, r.lt⟩⟩
theorem RowE.len (r : RowE w W S b n c xs) : xs.length = n := by have := (Sl.of_own r.row).1; simpa using this
theorem RowE.empty (st : CaSt F w W S v cs k pages) (t : TypeId) : RowE w (W.alloc (.cells #[] 3)) S W.heap.size 0 0 [] := ⟨own_empty' W 0 3 1 W.heap.size rfl (Nat.zero_le _), fun h => by have := st.lt _ h; omega, st.bel.size⟩
/-- One more is put behind. -/
theorem row_back {x : Int} {u : Value} {w6 : World} (st : CaSt F w W S v cs k pages) (r : RowE w W S b n c xs) (ho : w6.ownsRow 0 3 1 u (n + 1) (xs.map iv ++ [.int .i64 x])) (hg : (W.alloc (.cells #[.int .i64 x] 3)).grownBy w6 (Value.slice (some ⟨b, 0, none⟩) n c).ownBlock) (hat : u.ownBlock = (Value.slice (some ⟨b, 0, none⟩) n c).ownBlock ∨ u.ownBlock = some (W.alloc (.cells #[.int .i64 x] 3)).heap.size) :
    ∃ b' c', u = .slice (some ⟨b', 0, none⟩) (n + 1) c' ∧ CaSt F w w6 S v cs k pages ∧ RowE w w6 S b' (n + 1) c' (xs ++ [x]) ∧ (∀ q, q < W.heap.size → q ≠ b → w6.heap[q]? = W.heap[q]?) ∧ W.heap.size ≤ w6.heap.size ∧ (b' = b ∨ W.heap.size ≤ b') := by
  obtain ⟨g, cp, rfl, _, _⟩ := ho.form (by omega)
  have hz : (W.alloc (.cells #[.int .i64 x] 3)).heap.size = W.heap.size + 1 := by simp
  have hb0 : Below W.heap.size W (W.alloc (.cells #[.int .i64 x] 3)) := (Below.refl _ _).alloc (Nat.le_refl _) _
  have hK : Kept (fun q => q = b) (W.alloc (.cells #[.int .i64 x] 3)) w6 := (Kept.refl _ _).grown hg fun q e => Or.inl (by injection e with e; exact e.symm)
  have st4 := (st.below hb0).kept hK (fun q hq e => r.ap.1 (e ▸ hq)) (fun q e => by rw [e]; exact r.ap.2)
  have hsz := hK.size
  refine ⟨g, cp, rfl, st4, ⟨by rw [List.map_append]; exact ho, ?_⟩, fun q hq hne => (hK.block q (by omega) hne).trans (hb0.block q hq), by omega, ?_⟩
  · rcases hat with h | h
    · have : g = b := by injection h
      rw [this]; exact r.ap
    · have : g = (W.alloc (.cells #[.int .i64 x] 3)).heap.size := by injection h
      have hbs := st.bel.size
      exact ⟨fun h2 => by have := st.lt _ h2; omega, by omega⟩
  · rcases hat with h | h
    · exact Or.inl (by injection h)
    · exact Or.inr (by have : g = (W.alloc (.cells #[.int .i64 x] 3)).heap.size := by injection h
                       omega)
end
def allP (s : Int × Int × Int × Int) : Prop := True
section
variable {F : CaF} {w W : World} {S : Nat → Prop} {v : PoolW} {cs : List CL} {k : Nat} {pages : Int} {O : List Int}
/-- Take, whatever is asked: what is out is in a list, or in one's own hands. -/
theorem t_ctakeE (s : CaSt F w W S v cs k pages) (ec : EndC allP v.plain cs O) (hr : Room cs) (hk : k + 8 ≤ 1000000000) (proc order : Int) :
    ∃ at' no, Calls Tryz.prog 40 #[.pointer (some ⟨F.q, 0, none⟩), .int .i64 proc, .int .i64 order] W fun e w' => e = .returned (.tuple #[.int .i64 at', .int .i64 no]) ∧ ∃ S' v' cs', CaSt F w w' S' v' cs' (k + 8) pages ∧ Room cs' ∧ SideP S W S' w' ∧ EndC allP v'.plain cs' (if no = 0 then O ++ [at'] else O) := by
  by_cases h : proc < 0 ∨ (F.N : Int) ≤ proc ∨ order < 0 ∨ 4 ≤ order
  · refine ⟨0, 1, (c_take_no s proc order h).mono ?_⟩
    rintro e w' ⟨rfl, hb⟩
    exact ⟨rfl, S, v, cs, (s.below hb).later (by omega), hr, SideP.below hb, ec⟩
  · obtain ⟨pn, rfl⟩ : ∃ n : Nat, proc = n := ⟨proc.toNat, by omega⟩
    obtain ⟨on, rfl⟩ : ∃ n : Nat, order = n := ⟨order.toNat, by omega⟩
    have hi : 4 * pn + on < cs.length := by rw [s.len]; omega
    obtain ⟨⟨c, l⟩, hd⟩ : ∃ d, cs[4 * pn + on]? = some d := ⟨_, List.getElem?_eq_getElem hi⟩
    obtain ⟨R, hR⟩ : ∃ R, caTake v.plain l on = R := ⟨_, rfl⟩
    have ct := c_take s hk pn on (by omega) (by omega) hd
    have hm : (4 * pn + on) % 4 = on := by omega
    have h2 := hr _ _ hd
    rw [hm] at h2
    have hroom := (caTake_room (p := v.plain) (o := (on : Int)) ⟨by omega, by omega⟩ h2).1
    rw [hR] at ct hroom
    refine ⟨R.2.2.1, R.2.2.2, ct.mono ?_⟩
    rintro e w' ⟨rfl, S', v', c', k1, k2, k3, k4⟩
    refine ⟨rfl, S', v', _, k1, hr.set_ (by rw [hm]; exact hroom), k3, ?_⟩
    rw [k2]
    exact ec.take hd c' on hR fun h0 => ⟨⟨_, (k4 h0).1⟩, (k4 h0).2⟩
/-- Order and Give of one that is out. -/
theorem t_giveE {x : Int} (s : CaSt F w W S v cs k pages) (ec : EndC allP v.plain cs (x :: O)) : ∃ q : Nat, q < 4 ∧ 0 ≤ x ∧ x < 65536 ∧
    (∀ X, Below W.heap.size W X → Calls Tryz.prog 20 #[.pointer (some ⟨F.p, 0, none⟩), .int .i64 x] X fun e w' => e = .returned (.int .i64 q) ∧ Below X.heap.size X w') ∧
    ∀ X a pn, pn < F.N → Below W.heap.size W X → W.heap.size ≤ a → X.cell? ⟨a, 0, none⟩ = some (.int .i64 x) → Calls Tryz.prog 41 #[.pointer (some ⟨F.q, 0, none⟩), .int .i64 (pn : Nat), .int .i64 q, .slice (some ⟨a, 0, none⟩) 1 1] X fun e w' => e = .returned (.int .i64 0) ∧ ∃ S' v' cs', CaSt F w w' S' v' cs' k pages ∧ SideP S W S' w' ∧ EndC allP v'.plain cs' O := by
  obtain ⟨⟨q, hq⟩, hnl⟩ := ec.out x (List.mem_cons_self ..)
  obtain ⟨c, hc, h1, h2, h3⟩ := id hq
  obtain ⟨f1, f2, f3⟩ := ec.tidy.ok.four c hc
  rw [h3] at f2 f3
  obtain ⟨qn, rfl⟩ : ∃ n : Nat, q = n := ⟨q.toNat, by omega⟩
  have hrg := s.range hq
  refine ⟨qn, by omega, hrg.1, by omega, fun X hb => ?_, fun X a pn hpn hb ha hc1 => ?_⟩
  · exact t_porder (s.below hb).pool x ⟨by omega, by omega⟩ _ (order_out (s.below hb) hq)
  · have s2 := s.below hb
    have hi : 4 * pn + qn < cs.length := by rw [s.len]; omega
    obtain ⟨⟨c', l⟩, hd⟩ : ∃ d, cs[4 * pn + qn]? = some d := ⟨_, List.getElem?_eq_getElem hi⟩
    have hm : (4 * pn + qn) % 4 = qn := by omega
    have cg := c_give s2 pn qn hpn (by omega) hd (some ⟨a, 0, none⟩) 1 1 [x] ⟨rfl, fun _ => ⟨a, 0, rfl, lt_of_cell hc1, fun j hj => by
      obtain rfl : j = 0 := by omega
      exact hc1⟩⟩ (fun _ a' e hS => by
      obtain rfl := Option.some.inj e
      have := s.lt _ hS
      simp only at this
      omega) (by omega) (fun y hy => by obtain rfl := List.mem_singleton.1 hy; exact ⟨by omega, by omega⟩)
    rw [give_single s2 hq hnl] at cg
    refine cg.mono ?_
    rintro e w' ⟨rfl, S', v', c2, k1, k2, k3⟩
    refine ⟨rfl, S', v', _, k1, (SideP.below hb).trans k3, ?_⟩
    rw [k2]
    refine ec.give hd c2 qn (fun y hy => ?_) (s.nodup (List.mem_of_getElem? hd)).2.2.2.2.1 rfl
    have := s.ok.out _ _ hd y hy
    rw [hm] at this
    exact this
/-- The calls of the end. -/
theorem ends_calls (s : CaSt F w W S v cs k pages) (ec : EndC allP v.plain cs []) (A : Option Addr) (n c : Nat) (xs : List Int) (hr : RowK W S A n (xs.map iv)) (hxs : xs = (List.range F.N).map fun i : Nat => (i : Int)) (hn : n = F.N) :
    Calls Tryz.prog 42 #[.pointer (some ⟨F.q, 0, none⟩), .slice A n c] W fun e w1 => e = .returned (.int .i64 0) ∧
    Calls Tryz.prog 36 #[.pointer (some ⟨F.q, 0, none⟩)] w1 fun e w2 => ∃ A2 c2, e = .returned (.slice A2 0 c2) ∧
    Calls Tryz.prog 22 #[.pointer (some ⟨F.p, 0, none⟩)] w2 fun e w3 => ∃ A3 c3, e = .returned (.slice A3 0 c3) ∧
    Calls Tryz.prog 25 #[.pointer (some ⟨F.hp, 0, none⟩)] w3 fun e w4 => ∃ A4 c4, e = .returned (.slice A4 0 c4) ∧
    Calls Tryz.prog 28 #[.pointer (some ⟨F.hp, 0, none⟩)] w4 fun e w5 => ∃ A5 c5, e = .returned (.slice A5 1 c5) ∧
    Calls Tryz.prog 27 #[.slice A5 1 c5, .slice (some ⟨w5.heap.size, 0, none⟩) 1 1] (w5.alloc (.cells #[.int .i64 0, .int .i64 pages] 47)) fun e w6 => e = .returned (.bool true) ∧ Hid (Below w.heap.size w w6) := by
  have hN := s.n1.2
  have cf := c_flush s A n c xs hr (by omega) (fun x hx => by
    rw [hxs] at hx
    obtain ⟨i, hi, rfl⟩ := List.mem_map.1 hx
    have := List.mem_range.1 hi
    omega)
  have hfl := (s.lists ec).all F.N (Nat.le_refl _)
  rw [← hxs] at hfl
  refine cf.mono ?_
  rintro e w1 ⟨rfl, S1, u, cs1, k1, _, k3⟩
  rw [← k3] at hfl
  have hnil : ∀ d ∈ cs1, d.2 = [] := fun d hd => by
    obtain ⟨j, hj⟩ := List.getElem?_of_mem hd
    have hjl : j < 4 * F.N := by rw [← k1.len]; exact (List.getElem?_eq_some_iff.1 hj).1
    have := hfl.nil j hjl
    simp only [List.getElem?_map, hj, Option.map_some] at this
    exact Option.some.inj this
  obtain ⟨z1, z2⟩ := hfl.ec.done (fun d hd => by
    obtain ⟨l, hl, rfl⟩ := List.mem_map.1 hd
    obtain ⟨d', hd', rfl⟩ := List.mem_map.1 hl
    exact hnil d' hd')
  have hall : allOf cs1 = [] := by
    have : cs1.flatMap (·.2) = [] := List.flatMap_eq_nil_iff.2 hnil
    exact List.eq_nil_of_length_eq_zero (by unfold allOf; rw [sortI_length, this]; rfl)
  have hks : u.ks = [] := List.map_eq_nil_iff.1 (show u.ks.map CutV.plain = [] from z1)
  have hhl : u.h.l = [] := List.eq_nil_iff_forall_not_mem.2 fun s hs => z2 s hs trivial
  have ca := c_all k1
  rw [hall] at ca
  refine ⟨rfl, ca.mono ?_⟩
  rintro e w2 ⟨A2, c2, rfl, _, hb2⟩
  have s2 := k1.below hb2
  refine ⟨A2, c2, rfl, (t_pout s2.pool).mono ?_⟩
  rintro e w3 ⟨ds, i1, A3, c3, rfl, _, hb3⟩
  have hds : ds = [] := List.eq_nil_iff_forall_not_mem.2 fun x hx => by
    have := (i1.2.1 x).1 hx
    rw [hks] at this
    cases this
  subst hds
  have s3 := s2.below hb3
  obtain ⟨r1, r2⟩ := no_spansC (h := u.h) s3.pool.pok.hok hhl
  refine ⟨A3, c3, rfl, (t_phspans s3.pool).mono ?_⟩
  rintro e w4 ⟨A4, c4, rfl, _, hb4⟩
  have s4 := s3.below hb4
  refine ⟨A4, c4, by rw [r2]; rfl, (t_phruns s4.pool).mono ?_⟩
  rw [r1, s4.pg]
  rintro e w5 ⟨A5, c5, rfl, hr5, hb5⟩
  have s5 := s4.below hb5
  have hba := (Below.refl w5.heap.size w5).alloc (Nat.le_refl _) (.cells #[.int .i64 0, .int .i64 pages] 47)
  refine ⟨A5, c5, rfl, (ref_xsame A5 _ 1 c5 1 1 [(0, pages)] [(0, pages)] _ _ _ ((Rn.of_own hr5 rfl).below hba) (RnOne.plain_ w5 0 pages _) (by omega) (by omega)).mono ?_⟩
  rintro e w6 ⟨rfl, nq, rfl⟩
  exact ⟨by simp, hidb (belowN ((s5.below hba).bel) nq)⟩
end
end Go.Proofs.YtlcdgmjinhbncaaGreat
