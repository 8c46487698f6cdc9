/- A list is filled out of the pool, and emptied into it. -/
import Derived.Test.YtcgfmpegakpddaaGreatYCacheGo
namespace Go.Proofs.YtcgfmpegakpddaaGreat
open Go.RowKit Go.Maps
set_option linter.unusedVariables false

/-- To fill a list: the pool, the list, the error that ended it. -/
def caFill : Nat → PoolV → List Int → Int → PoolV × List Int × Int
  | 0, p, l, _ => (p, l, 0)
  | f + 1, p, l, o => if l.length * pSize o < 128 then (if (pTake p o).2.2 = 0 then caFill f (pTake p o).1 ((pTake p o).2.1 :: l) o else ((pTake p o).1, l, (pTake p o).2.2)) else (p, l, 0)
theorem caFill_end {p : PoolV} {l : List Int} {o : Int} (h : ¬ l.length * pSize o < 128) : ∀ f, caFill f p l o = (p, l, 0)
  | 0 => rfl
  | f + 1 => by unfold caFill; rw [if_neg h]
theorem pSize_16 (o : Int) : 16 ≤ pSize o := by
  have : 1 ≤ 2 ^ o.toNat := Nat.one_le_two_pow
  unfold pSize; omega
theorem pSize_128 {o : Int} (h : 0 ≤ o ∧ o ≤ 3) : pSize o ≤ 128 := by
  obtain rfl | rfl | rfl | rfl : o = 0 ∨ o = 1 ∨ o = 2 ∨ o = 3 := by omega
  all_goals decide
/-- To empty a list to so many words: the pool, the list. -/
def caEmpty (most : Nat) (o : Int) : PoolV → List Int → PoolV × List Int
  | p, [] => (p, [])
  | p, a :: r => if most < (r.length + 1) * pSize o then caEmpty most o (gGive p [a]).1 r else (p, a :: r)

section
variable {F : CaF} {w W : World} {S : Nat → Prop} {v : PoolW} {cs : List CL} {k : Nat} {pages : Int}
theorem CaSt.noin (s : CaSt F w W S v cs k pages) {x : Int} (h : ∀ o, ¬ OutQ v.plain.l x o) : ∀ d ∈ cs, x ∉ d.2 := fun d hd hx => by
  obtain ⟨i, hi⟩ := List.getElem?_of_mem hd
  exact h _ (s.ok.out i d hi x hx)

/-- What fill leaves: the list is R's, the pool is R's. -/
def Filled (F : CaF) (w W : World) (S : Nat → Prop) (cs : List CL) (i k : Nat) (pages : Int) (R : PoolV × List Int × Int) (e : Ending) (w' : World) : Prop :=
  e = .returned (.int .i64 R.2.2) ∧ ∃ S' v' c', CaSt F w w' S' v' (cs.set i (c', R.2.1)) (k + 8) pages ∧ v'.plain = R.1 ∧ SideP S W S' w'

/-- How many blocks the list at i has, as its chain tells. -/
def lenAt (W : World) (rb i : Nat) : Int := intOf ((W.cell? ⟨rb, 2 * i + 1, none⟩).getD (.int .i64 0))
theorem set_same {α : Type} {l : List α} {i : Nat} {x : α} (h : l[i]? = some x) : l.set i x = l := by
  obtain ⟨hi, e⟩ := List.getElem?_eq_some_iff.1 h
  rw [← e]; exact List.set_getElem_self hi
theorem CaSt.at_ (s : CaSt F w W S v cs k pages) {i : Nat} {c : Int × Int} {l : List Int} (hi : cs[i]? = some (c, l)) : ∃ h, c = (h, (l.length : Int)) ∧ W.cell? ⟨F.rb, 2 * i, none⟩ = some (.int .i64 h) ∧ W.cell? ⟨F.rb, 2 * i + 1, none⟩ = some (.int .i64 (l.length : Int)) ∧ lenAt W F.rb i = l.length ∧ l.length ≤ 65536 := by
  obtain ⟨n1, n2, n3, n4, n5, n6⟩ := s.nodup (List.mem_of_getElem? hi)
  obtain ⟨y0, y1⟩ := s.row i _ hi
  simp only at n1 n4 y0 y1
  rw [← n4] at y1
  refine ⟨c.1, by rw [n4], y0, y1, ?_, n1⟩
  unfold lenAt
  rw [y1]; rfl

set_option maxHeartbeats 2000000 in
set_option maxRecDepth 100000 in
theorem c_fill (s : CaSt F w W S v cs k pages) (hk : k + 8 ≤ 1000000000) {i : Nat} {c : Int × Int} (hi : cs[i]? = some (c, [])) (o : Nat) (ho : o < 4) (hio : i % 4 = o) :
    Calls Tryz.prog 84 #[.pointer (some ⟨F.q, 0, none⟩), .pointer (some ⟨F.rb, 2 * i, none⟩), .int .i64 o] W (Filled F w W S cs i k pages (caFill 8 v.plain [] o)) := by
  obtain ⟨R, hR⟩ : ∃ R, caFill 8 v.plain [] o = R := ⟨_, rfl⟩
  rw [hR]
  have hil := (List.getElem?_eq_some_iff.1 hi).1
  have H0 := hidb (show CaSt F w W S v (cs.set i (c, [])) (k + 0) pages ∧ SideP S W S W ∧ caFill (8 - 0) v.plain [] o = R from ⟨by rw [set_same hi]; exact s, SideP.below (Below.refl _ _), hR⟩)
  have hget : ∀ x : CL, (cs.set i x)[i]? = some x := fun x => List.getElem?_set_self hil
  have HSZ := hidb (pSize_16 (o : Int))
  have hgq := s.ne
  clear s hR hi
  go_enter Tryz.func84, Tryz.ntmps84
  go_wp2
  go_loopw [7, 8] (fun _ _ wr => ∃ (S' : Nat → Prop) (u : PoolW) (c' : Int × Int) (l : List Int), l.length ≤ 8 ∧ Hid (CaSt F w wr S' u (cs.set i (c', l)) (k + l.length) pages ∧ SideP S W S' wr ∧ caFill (8 - l.length) u.plain l o = R)) (fun _ _ wr => (9 - lenAt wr F.rb i).toNat)
  case atStart => exact ⟨S, v, c, [], by simp, H0⟩
  case round =>
    obtain ⟨S', u, c', l, hl8, HS⟩ := hrel
    obtain ⟨hh, rfl, y0, y1, hlen, h655⟩ := HS.out.1.at_ (hget (c', l))
    obtain ⟨t, ht⟩ : ∃ t : Nat, l.length * pSize (o : Int) = t := ⟨_, rfl⟩
    have cwd : Calls Tryz.prog 89 #[.agg #[.int .i64 hh, .int .i64 (l.length : Int)], .int .i64 (o : Int)] wr fun e w' => e = .returned (.int .i64 (t : Int)) ∧ Below wr.heap.size wr w' := by
      have := cc_words hh (l.length : Int) (o : Int) wr ⟨by omega, by omega⟩ ⟨by omega, by omega⟩
      rw [← Int.natCast_mul, ht] at this
      exact this
    obtain ⟨N, hN⟩ : ∃ N : Nat, l.length = N := ⟨_, rfl⟩
    rw [hN] at cwd y1 hlen
    have hlen2 := hidb hlen
    by_cases hlt : t < 128
    · have hN8 : N < 8 := by
        have h1 := HSZ.out
        rw [hN] at ht
        rcases Nat.lt_or_ge N 8 with h | h
        · exact h
        · have : 8 * 16 ≤ N * pSize (o : Int) := Nat.mul_le_mul h h1
          omega
      have hI : (t : Int) < 128 := by omega
      obtain ⟨⟨p', a, no⟩, hT⟩ : ∃ r, pTake u.plain o = r := ⟨_, rfl⟩
      have hfill : caFill (8 - N) u.plain l o = if no = 0 then caFill (8 - (N + 1)) p' (a :: l) o else (p', l, no) := by
        rw [show 8 - N = (8 - (N + 1)) + 1 by omega]
        show (if l.length * pSize (o : Int) < 128 then _ else _) = _
        rw [if_pos (by omega), hT]
      have HFILL := hidb (hfill.symm.trans (hN ▸ HS.out.2.2))
      have CT : Hid (∀ w1, Below wr.heap.size wr w1 → w1.cell? ⟨F.q, 0, none⟩ = some (.pointer (some ⟨F.p, 0, none⟩)) ∧ Calls Tryz.prog 44 #[.pointer (some ⟨F.p, 0, none⟩), .int .i64 o] w1 fun e w2 => e = .returned (.tuple #[.int .i64 a, .int .i64 no]) ∧ ∃ S2 u2, Hid (CaSt F w w2 S2 u2 (cs.set i ((hh, (l.length : Int)), l)) (k + N + 1) pages ∧ u2.plain = p' ∧ SideP S W S2 w2)) := hidb (fun w1 hb => by
        have s1 := HS.out.1.below hb
        rw [hN] at s1
        refine ⟨s1.c0, (c_ptake s1 (by omega) o ⟨by omega, by omega⟩ p' a no hT).mono ?_⟩
        rintro e w2 ⟨rfl, S2, u2, h1, h2, h3⟩
        rw [hN]
        exact ⟨rfl, S2, u2, hidb ⟨h1, h2, (HS.out.2.1.trans (SideP.below hb)).trans h3⟩⟩)
      by_cases hno : no = 0
      · subst hno
        have CPU : Hid (∀ w2 S2 u2, Hid (CaSt F w w2 S2 u2 (cs.set i ((hh, (l.length : Int)), l)) (k + N + 1) pages ∧ u2.plain = p' ∧ SideP S W S2 w2) → Calls Tryz.prog 91 #[.pointer (some ⟨F.q, 0, none⟩), .pointer (some ⟨F.rb, 2 * i, none⟩), .int .i64 a] w2 fun e w3 => e = .returned (.int .i64 0) ∧ ∃ S3 u3 c3, Hid (CaSt F w w3 S3 u3 (cs.set i (c3, a :: l)) (k + (N + 1)) pages ∧ SideP S W S3 w3 ∧ caFill (8 - (N + 1)) u3.plain (a :: l) o = R)) := hidb (fun w2 S2 u2 H2 => by
          obtain ⟨h1, h2, h3⟩ := H2.out
          have hpo := h1.pool.pok
          rw [h2] at hpo
          obtain ⟨_, t2, t3, _⟩ := take_out HS.out.1.pool.pok hpo hT
          refine (c_push h1 (hget _) (x := a) (by rw [h2, hio]; exact t2) (HS.out.1.noin t3)).mono ?_
          rintro e w3 ⟨rfl, ws', c3, k1, k2⟩
          rw [List.set_set] at k1
          refine ⟨rfl, S2, _, c3, hidb ⟨k1, h3.trans k2, ?_⟩⟩
          have := HFILL.out
          rw [if_pos rfl] at this
          show caFill _ u2.plain _ _ = R
          rw [h2]; exact this)
        have HLA : Hid (∀ w3 S3 u3 c3, Hid (CaSt F w w3 S3 u3 (cs.set i (c3, a :: l)) (k + (N + 1)) pages ∧ SideP S W S3 w3 ∧ caFill (8 - (N + 1)) u3.plain (a :: l) o = R) → lenAt w3 F.rb i = N + 1) := hidb (fun w3 S3 u3 c3 H3 => by
          obtain ⟨_, _, _, _, h, _⟩ := H3.out.1.at_ (hget _)
          rw [h]
          simp only [List.length_cons]
          omega)
        clear hT hfill hget HSZ ht h655 hlen
        --@1
        go_wp2_with (first
          | (go_at_call 89; (with_reducible refine cwd.mono ?_); rintro e w1 ⟨rfl, hb1⟩; obtain ⟨z0, ct⟩ := CT.out w1 hb1)
          | (go_at_call 44; (with_reducible refine ct.mono ?_); rintro e w2 ⟨rfl, S2, u2, H2⟩; have cp := CPU.out w2 S2 u2 H2)
          | (go_at_call 91; (with_reducible refine cp.mono ?_); rintro e w3 ⟨rfl, S3, u3, c3, H3⟩; have HM := hidb (HLA.out w3 S3 u3 c3 H3)))
        go_roundw
        case rel => exact ⟨S3, u3, c3, a :: l, by simp only [List.length_cons]; omega, by rw [show (a :: l).length = N + 1 by simp [hN]]; exact H3⟩
        case measure =>
          have e1 := HM.out
          have e2 := hlen2.out
          rw [e1, e2]
          omega
      · have HEND : Hid (∀ w2 S2 u2, Hid (CaSt F w w2 S2 u2 (cs.set i ((hh, (l.length : Int)), l)) (k + N + 1) pages ∧ u2.plain = p' ∧ SideP S W S2 w2) → Filled F w W S cs i k pages R (.returned (.int .i64 no)) w2) := hidb (fun w2 S2 u2 H2 => by
          obtain ⟨h1, h2, h3⟩ := H2.out
          have := HFILL.out
          rw [if_neg hno] at this
          subst this
          exact ⟨rfl, S2, u2, _, h1.later (by omega), h2, h3⟩)
        clear hT hfill hget HSZ ht h655 hlen
        --@2
        go_wp2_with (first
          | (go_at_call 89; (with_reducible refine cwd.mono ?_); rintro e w1 ⟨rfl, hb1⟩; obtain ⟨z0, ct⟩ := CT.out w1 hb1)
          | (go_at_call 44; (with_reducible refine ct.mono ?_); rintro e w2 ⟨rfl, S2, u2, H2⟩; have P := hidb (HEND.out w2 S2 u2 H2)))
        go_ret
        exact P.out
    · have hI : ¬ (t : Int) < 128 := by omega
      have HEND : Hid (∀ w1, Below wr.heap.size wr w1 → Filled F w W S cs i k pages R (.returned (.int .i64 0)) w1) := hidb (fun w1 hb => by
        have := HS.out.2.2
        rw [caFill_end (by omega)] at this
        subst this
        exact ⟨rfl, S', u, _, (HS.out.1.below hb).later (by omega), rfl, HS.out.2.1.trans (SideP.below hb)⟩)
      clear hget HSZ ht h655 hlen
      --@3
      go_wp2_with (go_at_call 89; (with_reducible refine cwd.mono ?_); rintro e w1 ⟨rfl, hb1⟩; have P := hidb (HEND.out w1 hb1))
      go_ret
      exact P.out
end

end Go.Proofs.YtcgfmpegakpddaaGreat
/- A list is emptied into the pool. -/
namespace Go.Proofs.YtcgfmpegakpddaaGreat
open Go.RowKit Go.Maps
set_option linter.unusedVariables false

section
variable {F : CaF} {w W : World} {S : Nat → Prop} {v : PoolW} {cs : List CL} {k : Nat} {pages : Int}
/-- What was out, and in no list, is so still. -/
def StillOut (cs : List CL) (l0 : List Int) (p p' : PoolV) (l : List Int) : Prop := (∀ y q, OutQ p.l y q → (∀ d ∈ cs, y ∉ d.2) → OutQ p'.l y q) ∧ ∀ a ∈ l, a ∈ l0
def Emptied (F : CaF) (w W : World) (S : Nat → Prop) (cs : List CL) (i k : Nat) (pages : Int) (p : PoolV) (l0 : List Int) (R : PoolV × List Int) (e : Ending) (w' : World) : Prop :=
  e = .returned (.tuple #[]) ∧ ∃ S' v' c', CaSt F w w' S' v' (cs.set i (c', R.2)) k pages ∧ v'.plain = R.1 ∧ SideP S W S' w' ∧ StillOut cs l0 p R.1 R.2
theorem caEmpty_end {most : Nat} {o : Int} {p : PoolV} {l : List Int} (h : ¬ most < l.length * pSize o) : caEmpty most o p l = (p, l) := by
  cases l with
  | nil => rfl
  | cons a r => unfold caEmpty; rw [if_neg (by simpa using h)]
theorem caEmpty_step {most : Nat} {o : Int} {p : PoolV} {a : Int} {r : List Int} (h : most < (r.length + 1) * pSize o) : caEmpty most o p (a :: r) = caEmpty most o (gGive p [a]).1 r := by
  conv => lhs; unfold caEmpty
  rw [if_pos h]
/-- What was popped is in no list. -/
theorem CaSt.popped (s : CaSt F w W S v cs k pages) {i : Nat} {c : Int × Int} {a : Int} {r : List Int} (hi : cs[i]? = some (c, a :: r)) (c' : Int × Int) : ∀ d ∈ cs.set i (c', r), a ∉ d.2 := fun d hd hm => by
  have hil := (List.getElem?_eq_some_iff.1 hi).1
  obtain ⟨j, hj⟩ := List.getElem?_of_mem hd
  by_cases e : i = j
  · subst e
    rw [List.getElem?_set_self hil] at hj
    obtain rfl := Option.some.inj hj
    have := (s.nodup (List.mem_of_getElem? hi)).2.2.2.2.1
    exact (List.nodup_cons.1 this).1 hm
  · rw [List.getElem?_set_ne e] at hj
    exact s.ok.apart i j _ d hi hj e a (List.mem_cons_self ..) hm

set_option maxHeartbeats 2000000 in
set_option maxRecDepth 100000 in
theorem c_empty (s : CaSt F w W S v cs k pages) {i : Nat} {c : Int × Int} {l0 : List Int} (hi : cs[i]? = some (c, l0)) (o : Nat) (ho : o < 4) (hio : i % 4 = o) (most : Nat) (hm : most ≤ 65536) :
    Calls Tryz.prog 90 #[.pointer (some ⟨F.q, 0, none⟩), .pointer (some ⟨F.rb, 2 * i, none⟩), .int .i64 o, .int .i64 most] W (Emptied F w W S cs i k pages v.plain l0 (caEmpty most o v.plain l0)) := by
  obtain ⟨R, hR⟩ : ∃ R, caEmpty most o v.plain l0 = R := ⟨_, rfl⟩
  rw [hR]
  have hil := (List.getElem?_eq_some_iff.1 hi).1
  have H0 := hidb (show CaSt F w W S v (cs.set i (c, l0)) k pages ∧ SideP S W S W ∧ caEmpty most o v.plain l0 = R ∧ StillOut cs l0 v.plain v.plain l0 from ⟨by rw [set_same hi]; exact s, SideP.below (Below.refl _ _), hR, fun _ _ h _ => h, fun _ h => h⟩)
  have HIM := hidb (List.mem_of_getElem? hi)
  have hget : ∀ x : CL, (cs.set i x)[i]? = some x := fun x => List.getElem?_set_self hil
  clear s hR hi
  go_enter Tryz.func90, Tryz.ntmps90
  go_wp2
  go_loopw [8, 9] (fun _ _ wr => ∃ (S' : Nat → Prop) (u : PoolW) (c' : Int × Int) (l : List Int), Hid (CaSt F w wr S' u (cs.set i (c', l)) k pages ∧ SideP S W S' wr ∧ caEmpty most o u.plain l = R ∧ StillOut cs l0 v.plain u.plain l)) (fun _ _ wr => (lenAt wr F.rb i).toNat)
  case atStart => exact ⟨S, v, c, l0, H0⟩
  case round =>
    obtain ⟨S', u, c', l, HS⟩ := hrel
    obtain ⟨hh, rfl, y0, y1, hlen, h655⟩ := HS.out.1.at_ (hget (c', l))
    obtain ⟨t, ht⟩ : ∃ t : Nat, l.length * pSize (o : Int) = t := ⟨_, rfl⟩
    have cwd : Calls Tryz.prog 89 #[.agg #[.int .i64 hh, .int .i64 (l.length : Int)], .int .i64 (o : Int)] wr fun e w' => e = .returned (.int .i64 (t : Int)) ∧ Below wr.heap.size wr w' := by
      have := cc_words hh (l.length : Int) (o : Int) wr ⟨by omega, by omega⟩ ⟨by omega, by omega⟩
      rw [← Int.natCast_mul, ht] at this
      exact this
    obtain ⟨N, hN⟩ : ∃ N : Nat, l.length = N := ⟨_, rfl⟩
    rw [hN] at cwd y1 hlen
    have hlen2 := hidb hlen
    by_cases hlt : most < t
    · have hI : (most : Int) < (t : Int) := by omega
      cases l with
      | nil => rw [List.length_nil, Nat.zero_mul] at ht; omega
      | cons a r =>
        have hN2 : r.length + 1 = N := by rw [← hN]; rfl
        have CT : Hid (∀ w1, Below wr.heap.size wr w1 → Calls Tryz.prog 85 #[.pointer (some ⟨F.q, 0, none⟩), .pointer (some ⟨F.rb, 2 * i, none⟩)] w1 fun e w2 => e = .returned (.tuple #[.int .i64 a, .int .i64 0]) ∧ w2.cell? ⟨F.q, 0, none⟩ = some (.pointer (some ⟨F.p, 0, none⟩)) ∧
            Calls Tryz.prog 52 #[.pointer (some ⟨F.p, 0, none⟩), .slice (some ⟨w2.heap.size, 0, none⟩) 1 1] (w2.alloc (.cells #[.int .i64 a] 3)) fun e w3 => e = .returned (.int .i64 0) ∧ ∃ S3 u3 c3, Hid (CaSt F w w3 S3 u3 (cs.set i (c3, r)) k pages ∧ SideP S W S3 w3 ∧ caEmpty most o u3.plain r = R ∧ StillOut cs l0 v.plain u3.plain r)) := hidb (fun w1 hb => by
          have s1 := HS.out.1.below hb
          have hout := s1.ok.out i _ (hget _) a (List.mem_cons_self ..)
          refine (c_pop s1 (hget _)).mono ?_
          rintro e w2 ⟨rfl, ws', c3, k1, k2⟩
          have hnin := s1.popped (hget _) c3
          refine ⟨rfl, k1.c0, ?_⟩
          have hb3 : Below w2.heap.size w2 (w2.alloc (.cells #[.int .i64 a] 3)) := (Below.refl _ _).alloc (Nat.le_refl _) _
          have k3 := k1.below hb3
          obtain ⟨p2, g1, _, g3⟩ := give_out k3.pool.pok (x := a) (q := ((i % 4 : Nat) : Int)) hout
          refine (c_pgive k3 hout hnin ⟨w2.heap.size, 0, none⟩ 1 (Sl.oneI w2 a _) (fun h => by have := k1.lt _ h; exact absurd this (Nat.lt_irrefl _)) p2 0 g1).mono ?_
          rintro e w3 ⟨rfl, S3, u3, m1, m2, m3⟩
          rw [List.set_set] at m1
          refine ⟨rfl, S3, u3, c3, hidb ⟨m1, ((HS.out.2.1.trans (SideP.below hb)).trans k2).trans ((SideP.below hb3).trans m3), ?_, ?_⟩⟩
          · skip
            have h5 := HS.out.2.2.1
            rw [caEmpty_step (by rw [hN2, ← hN, ht]; exact hlt)] at h5
            rw [m2, ← h5]
            show _ = caEmpty most o (gGive u.plain [a]).1 r
            rw [show gGive u.plain [a] = (p2, 0) from g1]
          · obtain ⟨t1, t2⟩ := HS.out.2.2.2
            refine ⟨fun y q hy hn => ?_, fun x hx => t2 x (List.mem_cons_of_mem _ hx)⟩
            rw [m2]
            exact g3 y q (t1 y q hy hn) (fun e => hn _ HIM.out (by rw [e]; exact t2 a (List.mem_cons_self ..))))
        have HLA : Hid (∀ w3 S3 u3 c3, Hid (CaSt F w w3 S3 u3 (cs.set i (c3, r)) k pages ∧ SideP S W S3 w3 ∧ caEmpty most o u3.plain r = R ∧ StillOut cs l0 v.plain u3.plain r) → lenAt w3 F.rb i + 1 = N) := hidb (fun w3 S3 u3 c3 H3 => by
          obtain ⟨_, _, _, _, h, _⟩ := H3.out.1.at_ (hget _)
          rw [h]
          omega)
        clear hget ht h655 hlen
        --@1
        go_wp2_with (first
          | (go_at_call 89; (with_reducible refine cwd.mono ?_); rintro e w1 ⟨rfl, hb1⟩; have ct := CT.out w1 hb1)
          | (go_at_call 85; (with_reducible refine ct.mono ?_); rintro e w2 ⟨rfl, z0, cg⟩)
          | (go_at_call 52; (with_reducible refine cg.mono ?_); rintro e w3 ⟨rfl, S3, u3, c3, H3⟩; have HM := hidb (HLA.out w3 S3 u3 c3 H3)))
        go_roundw
        case rel => exact ⟨S3, u3, c3, r, H3⟩
        case measure =>
          have e1 := HM.out
          have e2 := hlen2.out
          rw [e2]
          omega
    · have hI : ¬ (most : Int) < (t : Int) := by omega
      have HEND : Hid (∀ w1, Below wr.heap.size wr w1 → Emptied F w W S cs i k pages v.plain l0 R (.returned (.tuple #[])) w1) := hidb (fun w1 hb => by
        have := HS.out.2.2.1
        rw [caEmpty_end (by omega)] at this
        subst this
        exact ⟨rfl, S', u, _, HS.out.1.below hb, rfl, HS.out.2.1.trans (SideP.below hb), HS.out.2.2.2⟩)
      clear hget ht h655 hlen
      --@2
      go_wp2_with (go_at_call 89; (with_reducible refine cwd.mono ?_); rintro e w1 ⟨rfl, hb1⟩; have P := hidb (HEND.out w1 hb1))
      exact bodyPost_ret (v := .tuple #[]) (by simp [results, Tryz.results90, go_sem]) rfl P.out
end

end Go.Proofs.YtcgfmpegakpddaaGreat
/- New caches, and what is refused. -/
namespace Go.Proofs.YtcgfmpegakpddaaGreat
open Go.RowKit Go.Maps
set_option linter.unusedVariables false

theorem info_lists : (Tryz.prog.info? 195).map (fun i => (i.zero.map Value.cells, i.size, i.bytes)) = some (some #[.int .i64 0, .int .i64 0, .int .i64 0, .int .i64 0, .int .i64 0, .int .i64 0, .int .i64 0, .int .i64 0], 8, 64) := by kernel_rfl
theorem cc_new_no (procs : Int) (p a : Option Addr) (w : World) (h : procs < 1 ∨ 16 < procs ∨ p = none) :
    Calls Tryz.prog 43 #[.int .i64 procs, .pointer p, .pointer a] w fun e w' => e = .returned (.tuple #[.pointer none, .int .i64 1]) ∧ w' = w := by
  by_cases h1 : procs < 1
  · have hd : decide (procs < 1) = true := decide_eq_true h1
    clear h
    go_enter Tryz.func43, Tryz.ntmps43
    go_wp2
    go_ret2
    exact ⟨rfl, rfl⟩
  have hd : decide (procs < 1) = false := decide_eq_false h1
  by_cases h2 : 16 < procs
  · have hd2 : decide (16 < procs) = true := decide_eq_true h2
    clear h
    go_enter Tryz.func43, Tryz.ntmps43
    go_wp2
    go_ret2
    exact ⟨rfl, rfl⟩
  have hd2 : decide (16 < procs) = false := decide_eq_false h2
  obtain rfl : p = none := by
    rcases h with h | h | h
    · exact absurd h h1
    · exact absurd h h2
    · exact h
  go_enter Tryz.func43, Tryz.ntmps43
  go_wp2
  go_ret2
  exact ⟨rfl, rfl⟩
theorem lists_parts : ∃ i0 z, Tryz.prog.info? 195 = some i0 ∧ i0.zero = some z ∧ z.cells = #[.int .i64 0, .int .i64 0, .int .i64 0, .int .i64 0, .int .i64 0, .int .i64 0, .int .i64 0, .int .i64 0] ∧ i0.size = 8 ∧ i0.bytes = 64 := by
  have h := info_lists
  cases hi : Tryz.prog.info? 195 with
  | none => rw [hi] at h; cases h
  | some i0 =>
    rw [hi] at h
    cases hz : i0.zero with
    | none =>
      rw [Option.map_some, hz] at h
      injection h with h
      injection h with h1 _
      cases h1
    | some z =>
      rw [Option.map_some, hz] at h
      injection h with h
      injection h with h1 h2
      injection h2 with h2 h3
      injection h1 with h1
      exact ⟨i0, z, rfl, hz, h1, h2, h3⟩
theorem zero_cells {z : Array Value} (hz : z = #[.int .i64 0, .int .i64 0, .int .i64 0, .int .i64 0, .int .i64 0, .int .i64 0, .int .i64 0, .int .i64 0]) (n j : Nat) (h : j < n) : (madeCells z n).toList[j]? = some (.int .i64 0) := by
  have e : madeCells z n = (Array.range n).map (z[· % z.size]!) := rfl
  rw [e, Array.getElem?_toList, Array.getElem?_map, Array.getElem?_range, if_pos h, Option.map_some]
  congr 1
  subst hz
  have h8 : j % 8 < 8 := Nat.mod_lt _ (by decide)
  obtain ⟨r, hr⟩ : ∃ r, j % 8 = r := ⟨_, rfl⟩
  show (#[Value.int .i64 0, .int .i64 0, .int .i64 0, .int .i64 0, .int .i64 0, .int .i64 0, .int .i64 0, .int .i64 0])[j % 8]! = _
  rw [hr] at h8 ⊢
  match r, h8 with
  | 0, _ => rfl
  | 1, _ => rfl
  | 2, _ => rfl
  | 3, _ => rfl
  | 4, _ => rfl
  | 5, _ => rfl
  | 6, _ => rfl
  | 7, _ => rfl
set_option maxRecDepth 100000 in
theorem c_new {w W : World} {S : Nat → Prop} {Sh : Nat → Prop} {p hp ap g mb n m : Nat} {D : DataW Unit} {v : PoolW} {k : Nat} {pages : Int} (N : Nat) (h1 : 1 ≤ N ∧ N ≤ 16) (q1 : PlAt W Sh p hp ap g mb n m D v) (q2 : PlOk n m v) (lt : ∀ b, S b → b < W.heap.size) (hS : ∀ b, PlS Sh p ap g mb v.ks b → S b) (low : ∀ b, S b → w.heap.size ≤ b) (bel : Below w.heap.size w W) (la : v.h.last ≤ k) (pg : v.h.pages = pages) :
    Calls Tryz.prog 43 #[.int .i64 N, .pointer (some ⟨p, 0, none⟩), .pointer (some ⟨ap, 0, none⟩)] W fun e w' => ∃ F S', e = .returned (.tuple #[.pointer (some ⟨F.q, 0, none⟩), .int .i64 0]) ∧ (F.p = p ∧ F.hp = hp ∧ F.N = N) ∧ CaSt F w w' S' v (List.replicate (4 * N) ((0, 0), [])) k pages := by
  obtain ⟨i0, z, hi, hz0, hz1, hz2, hz3⟩ := lists_parts
  have hd1 : decide ((N : Int) < 1) = false := decide_eq_false (by omega)
  have hd2 : decide ((16 : Int) < (N : Int)) = false := decide_eq_false (by omega)
  go_enter Tryz.func43, Tryz.ntmps43
  go_wp2_with (at_make; refine wpList_make_full W rfl _ _ 146 rfl W.heap.size 195 i0 z 8 Tryz.underlying146 hi hz0 hz2 .i64 .i64 _ _ N rfl rfl (by omega) (by omega) (by rw [hz3]; omega) (by unfold maxLen; omega) (Nat.le_refl _) ?_; intro w1 hown hgrow)
  obtain ⟨L, hL, _, _, _, hLl, hLe⟩ := own_whole hown
  have hlt : W.heap.size < w1.heap.size := (hown.lt W.heap.size rfl).2
  have hB1 : Below W.heap.size W w1 := (Below.refl _ _).grown hgrow (Nat.le_refl _) (fun k hk => by cases hk)
  have hLc : ∀ j, j < N * 8 → w1.cell? ⟨W.heap.size, j, none⟩ = some (.int .i64 0) := fun j hj => by
    have h2 := zero_cells hz1 (N * 8) j hj
    rw [hLe, List.take_of_length_le (by omega)] at h2
    exact (hL.cell j).trans h2
  have hLf : ∀ j, w1.frozen? ⟨W.heap.size, j, none⟩ = false := fun j => hL.free j
  have HFIN : Hid (∀ ob : Obj, ob = .cells #[.pointer (some ⟨p, 0, none⟩), .pointer (some ⟨ap, 0, none⟩), .slice (some ⟨W.heap.size, 0, none⟩) N N] 148 → CaSt ⟨w1.heap.size, W.heap.size, p, hp, ap, g, mb, n, N⟩ w (w1.alloc ob) (fun b => S b ∨ b = W.heap.size ∨ b = w1.heap.size) v (List.replicate (4 * N) ((0, 0), [])) k pages) := hidb (fun ob e => by
    subst e
    have hb2 : Below w1.heap.size w1 (w1.alloc (.cells #[.pointer (some ⟨p, 0, none⟩), .pointer (some ⟨ap, 0, none⟩), .slice (some ⟨W.heap.size, 0, none⟩) N N] 148)) := (Below.refl _ _).alloc (Nat.le_refl _) _
    have hbw := bel.size
    have hz9 := hB1.size
    have hrep : ∀ (i : Nat) c, (List.replicate (4 * N) (((0, 0), []) : CL))[i]? = some c → i < 4 * N ∧ c = ((0, 0), []) := fun i c h => by
      have h3 := (List.getElem?_eq_some_iff.1 h).1
      rw [List.length_replicate] at h3
      rw [List.getElem?_replicate, if_pos h3] at h
      exact ⟨h3, (Option.some.inj h).symm⟩
    have hcr : ∀ j, (w1.alloc (.cells #[.pointer (some ⟨p, 0, none⟩), .pointer (some ⟨ap, 0, none⟩), .slice (some ⟨W.heap.size, 0, none⟩) N N] 148)).cell? ⟨W.heap.size, j, none⟩ = w1.cell? ⟨W.heap.size, j, none⟩ := fun j => hb2.cell (p := ⟨W.heap.size, j, none⟩) hlt
    refine ⟨⟨Sh, m, D, (q1.below hB1).below hb2, q2, fun b hb => ⟨Or.inl (hS b hb), fun e => ?_, fun e => ?_⟩⟩, ⟨fun c hc => ?_, fun i c hi x hx => ?_, fun i j c d hi hj hne x hx => ?_⟩, World.cell?_alloc_at _ _ _ 0 (by simp), World.cell?_alloc_at _ _ _ 1 (by simp), World.cell?_alloc_at _ _ _ 2 (by simp), fun i c hi => ?_, fun j => ?_, List.length_replicate .., ?_, h1, Or.inr (Or.inr rfl), Or.inr (Or.inl rfl), fun b hb => ?_, fun b hb => ?_, (bel.trans (hB1.mono bel.size)).trans (hb2.mono (Nat.le_trans hbw hz9)), la, pg⟩
    · have h3 := lt b (hS b hb)
      have e2 : b = w1.heap.size := e
      omega
    · have h3 := lt b (hS b hb)
      have e2 : b = W.heap.size := e
      omega
    · obtain ⟨i, hi⟩ := List.getElem?_of_mem hc
      obtain ⟨_, rfl⟩ := hrep i c hi
      exact cList_iff.2 ⟨rfl, List.nodup_nil, rfl⟩
    · obtain ⟨_, rfl⟩ := hrep i c hi
      cases hx
    · obtain ⟨_, rfl⟩ := hrep i c hi
      cases hx
    · obtain ⟨h4, rfl⟩ := hrep i c hi
      exact ⟨(hcr _).trans (hLc _ (by omega)), (hcr _).trans (hLc _ (by omega))⟩
    · exact (hb2.frozen (p := ⟨W.heap.size, j, none⟩) hlt).trans (hLf j)
    · show w1.heap.size ≠ W.heap.size
      omega
    · rw [World.size_alloc]
      rcases hb with h | h | h
      · have := lt b h; omega
      · omega
      · omega
    · rcases hb with h | h | h
      · exact low b h
      · omega
      · omega)
  clear hL hLe hown hgrow hLc hLf
  refine bodyPost_ret (v := .tuple #[.pointer (some ⟨w1.heap.size, 0, none⟩), .int .i64 0]) (by simp [results, Tryz.results43, go_sem]) rfl ?_
  exact ⟨⟨w1.heap.size, W.heap.size, p, hp, ap, g, mb, n, N⟩, _, rfl, ⟨rfl, rfl, rfl⟩, HFIN.out _ rfl⟩

end Go.Proofs.YtcgfmpegakpddaaGreat
/- Take of caches; a list's blocks. -/
namespace Go.Proofs.YtcgfmpegakpddaaGreat
open Go.RowKit Go.Maps
set_option linter.unusedVariables false

/-- Take from a list: the pool, the list, the address, the error. -/
def caTake (p : PoolV) (l : List Int) (o : Int) : PoolV × List Int × Int × Int := match l with
  | a :: r => (p, r, a, 0)
  | [] => match (caFill 8 p [] o).2.1 with
    | [] => ((caFill 8 p [] o).1, [], 0, (caFill 8 p [] o).2.2)
    | a :: r => ((caFill 8 p [] o).1, r, a, 0)
theorem caFill_more : ∀ (f : Nat) {p : PoolV} {l : List Int} {o : Int}, l.length ≤ (caFill f p l o).2.1.length
  | 0, _, _, _ => Nat.le_refl _
  | f + 1, p, l, o => by
    unfold caFill
    split
    · split
      · exact Nat.le_trans (by simp) (caFill_more f)
      · exact Nat.le_refl _
    · exact Nat.le_refl _
theorem caFill_some {p : PoolV} {o : Int} (h : (caFill 8 p [] o).2.1 = []) : (caFill 8 p [] o).2.2 ≠ 0 := by
  unfold caFill at h ⊢
  rw [if_pos (by simp)] at h ⊢
  split at h
  · have := caFill_more 7 (p := (pTake p o).1) (l := [(pTake p o).2.1]) (o := o)
    rw [h] at this
    simp at this
  · rename_i hne
    rw [if_neg hne]
    exact hne
/-- A list never has more than 256 words. -/
theorem caFill_room : ∀ (f : Nat) {p : PoolV} {l : List Int} {o : Int}, (0 ≤ o ∧ o ≤ 3) → l.length * pSize o ≤ 256 → (caFill f p l o).2.1.length * pSize o ≤ 256
  | 0, _, _, _, _, h => h
  | f + 1, p, l, o, ho, h => by
    unfold caFill
    split
    · rename_i h1
      split
      · refine caFill_room f ho ?_
        have h2 := pSize_128 ho
        rw [List.length_cons, Nat.add_mul]
        omega
      · exact h
    · exact h
section
variable {F : CaF} {w W : World} {S : Nat → Prop} {v : PoolW} {cs : List CL} {k : Nat} {pages : Int}
theorem c_take_no (s : CaSt F w W S v cs k pages) (proc order : Int) (h : proc < 0 ∨ (F.N : Int) ≤ proc ∨ order < 0 ∨ 4 ≤ order) :
    Calls Tryz.prog 40 #[.pointer (some ⟨F.q, 0, none⟩), .int .i64 proc, .int .i64 order] W fun e w' => e = .returned (.tuple #[.int .i64 0, .int .i64 1]) ∧ Below W.heap.size W w' := by
  have cl := c_list_no s proc order h
  clear s h
  go_enter Tryz.func40, Tryz.ntmps40
  go_wp2_with (go_at_call 79; (with_reducible refine cl.mono ?_); rintro e w1 ⟨rfl, hb⟩)
  go_ret2
  exact ⟨rfl, hb⟩
def CTook (F : CaF) (w W : World) (S : Nat → Prop) (cs : List CL) (i k : Nat) (pages : Int) (R : PoolV × List Int × Int × Int) (e : Ending) (w' : World) : Prop :=
  e = .returned (.tuple #[.int .i64 R.2.2.1, .int .i64 R.2.2.2]) ∧ ∃ S' v' c', CaSt F w w' S' v' (cs.set i (c', R.2.1)) (k + 8) pages ∧ v'.plain = R.1 ∧ SideP S W S' w' ∧ (R.2.2.2 = 0 → OutQ R.1.l R.2.2.1 ((i % 4 : Nat) : Int) ∧ ∀ d ∈ cs.set i (c', R.2.1), R.2.2.1 ∉ d.2)
set_option maxHeartbeats 1000000 in
theorem c_take (s : CaSt F w W S v cs k pages) (hk : k + 8 ≤ 1000000000) (proc order : Nat) (h1 : proc < F.N) (h2 : order < 4) {c : Int × Int} {l : List Int} (hi : cs[4 * proc + order]? = some (c, l)) :
    Calls Tryz.prog 40 #[.pointer (some ⟨F.q, 0, none⟩), .int .i64 proc, .int .i64 order] W (CTook F w W S cs (4 * proc + order) k pages (caTake v.plain l order)) := by
  have cl := c_list s proc order h1 h2
  have him : (4 * proc + order) % 4 = order := by omega
  obtain ⟨i, hii⟩ : ∃ i, 4 * proc + order = i := ⟨_, rfl⟩
  rw [hii] at cl hi him ⊢
  have hil := (List.getElem?_eq_some_iff.1 hi).1
  have hget : ∀ x : CL, (cs.set i x)[i]? = some x := fun x => List.getElem?_set_self hil
  obtain ⟨hh, rfl, y0, y1, _, h655⟩ := s.at_ hi
  have HS := hidb s
  have HQ : Hid (∀ w1, Below W.heap.size W w1 → w1.cell? ⟨F.rb, 2 * i, none⟩ = some (.int .i64 hh) ∧ w1.cell? ⟨F.rb, 2 * i + 1, none⟩ = some (.int .i64 (l.length : Int))) := hidb (fun w1 hb => by
    have h1 := (HS.out.below hb).row i _ hi
    exact h1)
  cases l with
  | cons a r =>
    have CP : Hid (∀ w1, Below W.heap.size W w1 → Calls Tryz.prog 85 #[.pointer (some ⟨F.q, 0, none⟩), .pointer (some ⟨F.rb, 2 * i, none⟩)] w1 fun e w2 => e = .returned (.tuple #[.int .i64 a, .int .i64 0]) ∧ Hid (CTook F w W S cs i k pages (v.plain, r, a, 0) (.returned (.tuple #[.int .i64 a, .int .i64 0])) w2)) := hidb (fun w1 hb => by
      refine (c_pop (HS.out.below hb) hi).mono ?_
      rintro e w2 ⟨rfl, ws', c', k1, k2⟩
      exact ⟨rfl, hidb ⟨rfl, S, _, c', k1.later (by omega), rfl, (SideP.below hb).trans k2, fun _ => ⟨HS.out.ok.out i _ hi a (List.mem_cons_self ..), HS.out.popped hi c'⟩⟩⟩)
    rw [show caTake v.plain (a :: r) order = (v.plain, r, a, 0) from rfl]
    have hl0 : ¬ ((a :: r).length : Int) = 0 := by simp only [List.length_cons]; omega
    obtain ⟨ln, hln⟩ : ∃ ln : Int, ((a :: r).length : Int) = ln := ⟨_, rfl⟩
    rw [hln] at HQ hl0
    clear s y0 y1 hi hget him hln h655
    --@1
    go_enter Tryz.func40, Tryz.ntmps40
    go_wp2_with (first
      | (go_at_call 79; (with_reducible refine cl.mono ?_); rintro e w1 ⟨rfl, hb⟩; obtain ⟨z0, z1⟩ := HQ.out w1 hb; have cp := CP.out w1 hb)
      | (go_at_call 85; (with_reducible refine cp.mono ?_); rintro e w2 ⟨rfl, P⟩))
    go_ret2
    exact P.out
  | nil =>
    obtain ⟨⟨p', l', no⟩, hR⟩ : ∃ R, caFill 8 v.plain [] order = R := ⟨_, rfl⟩
    have CF : Hid (∀ w1, Below W.heap.size W w1 → Calls Tryz.prog 84 #[.pointer (some ⟨F.q, 0, none⟩), .pointer (some ⟨F.rb, 2 * i, none⟩), .int .i64 order] w1 fun e w2 => e = .returned (.int .i64 no) ∧ w2.cell? ⟨F.rb, 2 * i + 1, none⟩ = some (.int .i64 (l'.length : Int)) ∧ ∃ S2 v2 c2, Hid (CaSt F w w2 S2 v2 (cs.set i (c2, l')) (k + 8) pages ∧ v2.plain = p' ∧ SideP S W S2 w2)) := hidb (fun w1 hb => by
      have := c_fill (HS.out.below hb) hk hi order h2 him
      rw [hR] at this
      refine this.mono ?_
      rintro e w2 ⟨rfl, S2, v2, c2, k1, k2, k3⟩
      obtain ⟨_, _, _, z1, _⟩ := k1.at_ (hget _)
      exact ⟨rfl, z1, S2, v2, c2, hidb ⟨k1, k2, (SideP.below hb).trans k3⟩⟩)
    have hl0 : ((([] : List Int).length : Nat) : Int) = 0 := rfl
    rw [hl0] at HQ
    cases l' with
    | nil =>
      rw [show caTake v.plain [] order = (p', [], 0, no) by unfold caTake; simp only [hR]]
      have HE : Hid (∀ w2 S2 v2 c2, Hid (CaSt F w w2 S2 v2 (cs.set i (c2, [])) (k + 8) pages ∧ v2.plain = p' ∧ SideP S W S2 w2) → CTook F w W S cs i k pages (p', [], 0, no) (.returned (.tuple #[.int .i64 0, .int .i64 no])) w2) := hidb (fun w2 S2 v2 c2 H => ⟨rfl, S2, v2, c2, H.out.1, H.out.2.1, H.out.2.2, fun e0 => absurd e0 (by have := caFill_some (p := v.plain) (o := (order : Int)) (by rw [hR]); rw [hR] at this; exact this)⟩)
      rw [hl0] at CF
      clear s y0 y1 hi hget him h655 hR hl0
      --@2
      go_enter Tryz.func40, Tryz.ntmps40
      go_wp2_with (first
        | (go_at_call 79; (with_reducible refine cl.mono ?_); rintro e w1 ⟨rfl, hb⟩; obtain ⟨z0, z1⟩ := HQ.out w1 hb; have cf := CF.out w1 hb)
        | (go_at_call 84; (with_reducible refine cf.mono ?_); rintro e w2 ⟨rfl, x1, S2, v2, c2, H2⟩; have P := hidb (HE.out w2 S2 v2 c2 H2)))
      go_ret2
      exact P.out
    | cons a r =>
      rw [show caTake v.plain [] order = (p', r, a, 0) by unfold caTake; simp only [hR]]
      have CP : Hid (∀ w2 S2 v2 c2, Hid (CaSt F w w2 S2 v2 (cs.set i (c2, a :: r)) (k + 8) pages ∧ v2.plain = p' ∧ SideP S W S2 w2) → Calls Tryz.prog 85 #[.pointer (some ⟨F.q, 0, none⟩), .pointer (some ⟨F.rb, 2 * i, none⟩)] w2 fun e w3 => e = .returned (.tuple #[.int .i64 a, .int .i64 0]) ∧ Hid (CTook F w W S cs i k pages (p', r, a, 0) (.returned (.tuple #[.int .i64 a, .int .i64 0])) w3)) := hidb (fun w2 S2 v2 c2 H => by
        obtain ⟨k1, k2, k3⟩ := H.out
        refine (c_pop k1 (hget _)).mono ?_
        rintro e w3 ⟨rfl, ws', c', m1, m2⟩
        rw [List.set_set] at m1
        have hp := k1.popped (hget (c2, a :: r)) c'
        rw [List.set_set] at hp
        refine ⟨rfl, hidb ⟨rfl, S2, _, c', m1, k2, k3.trans m2, fun _ => ⟨?_, hp⟩⟩⟩
        rw [← k2]
        exact k1.ok.out i _ (hget (c2, a :: r)) a (List.mem_cons_self ..))
      have hl1 : ¬ ((a :: r).length : Int) = 0 := by simp only [List.length_cons]; omega
      obtain ⟨ln, hln⟩ : ∃ ln : Int, ((a :: r).length : Int) = ln := ⟨_, rfl⟩
      rw [hln] at CF hl1
      clear s y0 y1 hi hget him h655 hR hl0 hln
      --@3
      go_enter Tryz.func40, Tryz.ntmps40
      go_wp2_with (first
        | (go_at_call 79; (with_reducible refine cl.mono ?_); rintro e w1 ⟨rfl, hb⟩; obtain ⟨z0, z1⟩ := HQ.out w1 hb; have cf := CF.out w1 hb)
        | (go_at_call 84; (with_reducible refine cf.mono ?_); rintro e w2 ⟨rfl, x1, S2, v2, c2, H2⟩; have cp := CP.out w2 S2 v2 c2 H2)
        | (go_at_call 85; (with_reducible refine cp.mono ?_); rintro e w3 ⟨rfl, P⟩))
      go_ret2
      exact P.out

/-- A list's blocks, told. -/
theorem c_listat2 (s : CaSt F w W S v cs k pages) (proc order : Nat) (h1 : proc < F.N) (h2 : order < 4) {c : Int × Int} {l : List Int} (hi : cs[4 * proc + order]? = some (c, l)) :
    Calls Tryz.prog 35 #[.pointer (some ⟨F.q, 0, none⟩), .int .i64 proc, .int .i64 order] W fun e w' => ∃ A c, e = .returned (.slice A l.length c) ∧ Hid (Sl w' w'.heap.size A l.length (l.map iv) ∧ Below W.heap.size W w' ∧ ∀ a, A = some a → W.heap.size ≤ a.block) := by
  have cl := c_list s proc order h1 h2
  obtain ⟨i, hii⟩ : ∃ i, 4 * proc + order = i := ⟨_, rfl⟩
  rw [hii] at cl hi
  obtain ⟨Sh, m, D, q1, q2, q3⟩ := s.pl
  obtain ⟨n1, n2, n3, n4, n5, n6⟩ := s.nodup (List.mem_of_getElem? hi)
  have hlst := s.ok.lst _ (List.mem_of_getElem? hi)
  simp only at n1 n2 n3 hlst
  have CL : Hid (∀ W', Below W.heap.size W W' → (W'.cell? ⟨F.q, 1, none⟩ = some (.pointer (some ⟨F.ap, 0, none⟩)) ∧ W'.cell? ⟨F.rb, 2 * i, none⟩ = some (.int .i64 c.1) ∧ W'.cell? ⟨F.rb, 2 * i + 1, none⟩ = some (.int .i64 c.2)) ∧ Calls Tryz.prog 80 #[.pointer (some ⟨F.ap, 0, none⟩), .agg #[.int .i64 c.1, .int .i64 c.2]] W'.drew fun e w2 => ∃ A d, e = .returned (.tuple #[.slice A l.length d, .int .i64 0]) ∧ Hid (Sl w2 w2.heap.size A l.length (l.map iv) ∧ Below W.heap.size W w2 ∧ ∀ a, A = some a → W.heap.size ≤ a.block)) := hidb (fun W' hb => by
    have s1 := s.below hb
    refine ⟨⟨s1.c1, s1.row i _ hi⟩, ?_⟩
    have := code_clist ((q1.below hb).below (Below.refl _ _).drew).ar c.1 c.2 n2 n3 q2.wide
    rw [show cList v.ws (c.1, c.2) = some l from hlst] at this
    refine this.mono ?_
    rintro e w2 ⟨A, n, d, out, rfl, e1, e2, e3, e4, e5, e6⟩
    obtain rfl := e1 l rfl
    have hn : n = out.length := by have := e3.1; simpa using this.symm
    subst hn
    exact ⟨A, d, rfl, hidb ⟨e3, hb.drew.trans (e5.mono (by show W.heap.size ≤ W'.heap.size; exact hb.size)), fun a ha => Nat.le_trans hb.size (e6 a ha)⟩⟩)
  obtain ⟨ln, hln⟩ : ∃ ln, l.length = ln := ⟨_, rfl⟩
  rw [hln] at CL ⊢
  clear s hi q1 q2 q3 n1 n2 n3 n4 n5 n6 hlst
  --@4
  go_enter Tryz.func35, Tryz.ntmps35
  go_wp2_with (go_at_call 79; (with_reducible refine cl.mono ?_); rintro e w1 ⟨rfl, hb⟩; obtain ⟨⟨z0, z1, z2⟩, cc⟩ := CL.out w1 hb)
  go_region_law (first | (go_simp; go_at_call 80; (with_reducible refine cc.mono ?_); rintro e w2 ⟨A, d, rfl, P⟩))
  all_goals go_wp2
  all_goals go_ret
  all_goals exact ⟨A, d, rfl, P⟩
theorem c_listat (s : CaSt F w W S v cs k pages) (proc order : Nat) (h1 : proc < F.N) (h2 : order < 4) {c : Int × Int} {l : List Int} (hi : cs[4 * proc + order]? = some (c, l)) :
    Calls Tryz.prog 35 #[.pointer (some ⟨F.q, 0, none⟩), .int .i64 proc, .int .i64 order] W fun e w' => ∃ A c, e = .returned (.slice A l.length c) ∧ Hid (Sl w' w'.heap.size A l.length (l.map iv) ∧ Below W.heap.size W w') :=
  (c_listat2 s proc order h1 h2 hi).mono fun e w' ⟨A, c, h, P⟩ => ⟨A, c, h, hidb ⟨P.out.1, P.out.2.1⟩⟩
theorem c_listat_no (s : CaSt F w W S v cs k pages) (proc order : Int) (h : proc < 0 ∨ (F.N : Int) ≤ proc ∨ order < 0 ∨ 4 ≤ order) :
    Calls Tryz.prog 35 #[.pointer (some ⟨F.q, 0, none⟩), .int .i64 proc, .int .i64 order] W fun e w' => e = .returned (.slice none 0 0) ∧ Below W.heap.size W w' := by
  have cl := c_list_no s proc order h
  clear s h
  go_enter Tryz.func35, Tryz.ntmps35
  go_wp2_with (go_at_call 79; (with_reducible refine cl.mono ?_); rintro e w1 ⟨rfl, hb⟩)
  go_ret
  exact ⟨rfl, hb⟩
end

end Go.Proofs.YtcgfmpegakpddaaGreat
/- What layer 11's statements have in common: a heap, its pool, and caches; the document's example. -/
namespace Go.Proofs.YtcgfmpegakpddaaGreat
open Go.RowKit
set_option linter.unusedVariables false

theorem code_made11 (pages : Int) (N : Nat) (w : World) (h0 : 4 ≤ pages) (h1 : pages ≤ 1024) (hN1 : 1 ≤ N ∧ N ≤ 16) : ∃ F ws, hNew pages = (⟨pages, F, [], 0⟩, 0) ∧
    Calls Tryz.prog 32 #[.int .i64 pages, .int .i64 N] w fun e w' => ∃ (C : CaF) (S : Nat → Prop), e = .returned (.tuple #[.pointer (some ⟨C.hp, 0, none⟩), .pointer (some ⟨C.p, 0, none⟩), .pointer (some ⟨C.q, 0, none⟩)]) ∧ C.N = N ∧ Hid (CaSt C w w' S ⟨⟨pages, F, [], 0⟩, ws, false, []⟩ (List.replicate (4 * N) ((0, 0), [])) 0 pages) := by
  obtain ⟨F, e1, c1⟩ := t_hnew pages w h0 h1
  obtain ⟨n, rfl⟩ : ∃ n : Nat, pages = n := ⟨pages.toNat, by omega⟩
  obtain ⟨ws, hws⟩ : ∃ ws, List.replicate (64 * n) 0 = ws := ⟨_, rfl⟩
  have hwide : Wide ws := fun x hx => by rw [← hws] at hx; rw [(List.mem_replicate.1 hx).2]; decide
  refine ⟨F, ws, e1, ?_⟩
  have C2 : Hid (∀ W, Calls Tryz.prog 46 #[.int .i64 (n : Int)] W fun e w' => ∃ p g, e = .returned (.tuple #[.pointer (some ⟨p, 0, none⟩), .int .i64 0]) ∧ Ar w' W.heap.size p g (64 * n) ws ∧ Below W.heap.size W w') := hidb (fun W => by
    have := code_anew n W (by omega) (by omega)
    rw [hws] at this
    exact this)
  have C3 : Hid (∀ w1 w2 hp ap g Sh, HeapSt w w1 hp Sh ⟨(n : Int), F, [], 0⟩ 0 n → Ar w2 w1.heap.size ap g (64 * n) ws → Below w1.heap.size w1 w2 → Calls Tryz.prog 47 #[.pointer (some ⟨hp, 0, none⟩), .pointer (some ⟨ap, 0, none⟩)] w2 fun e w' => ∃ p, e = .returned (.pointer (some ⟨p, 0, none⟩)) ∧
      Calls Tryz.prog 43 #[.int .i64 N, .pointer (some ⟨p, 0, none⟩), .pointer (some ⟨ap, 0, none⟩)] w' fun e w4 => ∃ (C : CaF) (S : Nat → Prop), e = .returned (.tuple #[.pointer (some ⟨C.q, 0, none⟩), .int .i64 0]) ∧ (hp = C.hp ∧ p = C.p ∧ C.N = N) ∧ Hid (CaSt C w w4 S ⟨⟨(n : Int), F, [], 0⟩, ws, false, []⟩ (List.replicate (4 * N) ((0, 0), [])) 0 n)) := hidb (fun w1 w2 hp ap g Sh hh ha hb => by
    have hSl := hh.hp.lt
    have hge := ha.ge
    have hgg := ha.geg
    have k := hh.hp.below hb
    refine (code_pnew k (ha.more (Nat.zero_le _)) (by show ((64 * n : Nat) : Int) = 64 * (n : Int); omega) hwide (fun h => by have := hSl _ h; omega) (fun h => by have := hSl _ h; omega)).mono ?_
    rintro e w' ⟨p, mb, rfl, q1, q2, q3, q4, q5⟩
    have hb1 := hh.bel.size
    have hb2 := hb.size
    refine ⟨p, rfl, (c_new (w := w) (S := PlS Sh p ap g mb []) (k := 0) (pages := (n : Int)) N hN1 q1 q2 q1.lt (fun b h => h) (fun b h => ?_) ((hh.bel.trans (hb.mono hb1)).trans (q3.mono (by omega))) (Int.le_refl _) rfl).mono ?_⟩
    · rcases h with h | h | h | h | h | ⟨c, hc, _⟩
      · exact hh.low b h
      · omega
      · omega
      · omega
      · omega
      · cases hc
    · rintro e w4 ⟨C, S, rfl, ⟨x1, x2, x3⟩, hs⟩
      exact ⟨C, S, rfl, ⟨x2.symm, x1.symm, x3⟩, hidb hs⟩)
  clear e1 hws hwide
  go_enter Tryz.func32, Tryz.ntmps32
  go_wp2_with (first
    | (go_at_call 45; (with_reducible refine c1.mono ?_); rintro e w1 ⟨hp, Sh, rfl, s1⟩; have S1 := hidb s1; clear s1)
    | (go_at_call 46; (with_reducible refine (C2.out _).mono ?_); rintro e w2 ⟨ap, g, rfl, ha, hb2⟩; have c3 := C3.out _ _ _ _ _ _ S1.out ha hb2; clear ha hb2)
    | (go_at_call 47; (with_reducible refine c3.mono ?_); rintro e w3 ⟨p, rfl, c4⟩)
    | (go_at_call 43; (with_reducible refine c4.mono ?_); rintro e w4 ⟨C, S, rfl, ⟨rfl, rfl, hCN⟩, S4⟩))
  exact bodyPost_ret (v := .tuple #[.pointer (some ⟨C.hp, 0, none⟩), .pointer (some ⟨C.p, 0, none⟩), .pointer (some ⟨C.q, 0, none⟩)]) (by simp [results, Tryz.results32, go_sem]) rfl ⟨C, S, rfl, hCN, S4⟩

/-- The document's example. -/
theorem aw11_take3 (h' : HeapV) : pTake ⟨h', [((1, 0, 4, 1), [64, 96, 128, 160, 192, 224])], false⟩ 1 = (⟨h', [((1, 0, 4, 1), [96, 128, 160, 192, 224])], false⟩, 64, 0) := by
  rw [pTake_some (p := ⟨h', [((1, 0, 4, 1), [64, 96, 128, 160, 192, 224])], false⟩) (order := 1) (i := 0) (c := ((1, 0, 4, 1), [64, 96, 128, 160, 192, 224])) (by omega) (by show pFirst [((1, 0, 4, 1), [64, 96, 128, 160, 192, 224])] 1 0 true = some 0; decide) rfl]; rfl
theorem aw11_take4 (h' : HeapV) : pTake ⟨h', [((1, 0, 4, 1), [96, 128, 160, 192, 224])], false⟩ 1 = (⟨h', [((1, 0, 4, 1), [128, 160, 192, 224])], false⟩, 96, 0) := by
  rw [pTake_some (p := ⟨h', [((1, 0, 4, 1), [96, 128, 160, 192, 224])], false⟩) (order := 1) (i := 0) (c := ((1, 0, 4, 1), [96, 128, 160, 192, 224])) (by omega) (by show pFirst [((1, 0, 4, 1), [96, 128, 160, 192, 224])] 1 0 true = some 0; decide) rfl]; rfl
theorem aw11_fill {h h' : HeapV} (hm : hMake h 4 1 = (h', (1, 0, 4, 1), 0)) : caFill 8 ⟨h, [], false⟩ [] 1 = (⟨h', [((1, 0, 4, 1), [128, 160, 192, 224])], false⟩, [96, 64, 32, 0], 0) := by
  have s32 : pSize 1 = 32 := rfl
  unfold caFill
  rw [if_pos (by rw [s32]; decide), aw_take1 hm]
  simp only [if_true]
  unfold caFill
  rw [if_pos (by rw [s32]; decide), aw_take2 h']
  simp only [if_true]
  unfold caFill
  rw [if_pos (by rw [s32]; decide), aw11_take3 h']
  simp only [if_true]
  unfold caFill
  rw [if_pos (by rw [s32]; decide), aw11_take4 h']
  simp only [if_true]
  exact caFill_end (by rw [s32]; decide) _
theorem aw11 {h h' : HeapV} (hm : hMake h 4 1 = (h', (1, 0, 4, 1), 0)) : caTake ⟨h, [], false⟩ [] 1 = (⟨h', [((1, 0, 4, 1), [128, 160, 192, 224])], false⟩, [64, 32, 0], 96, 0) := by
  unfold caTake
  rw [aw11_fill hm]
theorem sl_three (W : World) (x y z : Int) (t : TypeId) : Sl (W.alloc (.cells #[.int .i64 x, .int .i64 y, .int .i64 z] t)) (W.alloc (.cells #[.int .i64 x, .int .i64 y, .int .i64 z] t)).heap.size (some ⟨W.heap.size, 0, none⟩) 3 ([x, y, z].map iv) :=
  ⟨rfl, fun _ => ⟨W.heap.size, 0, rfl, by simp, fun j hj => by
    match j, hj with
    | 0, _ => exact World.cell?_alloc_at _ _ _ 0 (by simp)
    | 1, _ => exact World.cell?_alloc_at _ _ _ 1 (by simp)
    | 2, _ => exact World.cell?_alloc_at _ _ _ 2 (by simp)⟩⟩
theorem awake11 (w : World) : Calls Tryz.prog 31 #[] w fun e w' => e = .returned (.bool true) ∧ Below w.heap.size w w' := by
  obtain ⟨F, ws, hN, c1⟩ := code_made11 8 1 w (by omega) (by omega) (by omega)
  obtain ⟨h', hM⟩ := aw_make9 hN
  have C2 : Hid (∀ W (C : CaF) S, C.N = 1 → Hid (CaSt C w W S ⟨⟨8, F, [], 0⟩, ws, false, []⟩ (List.replicate (4 * 1) ((0, 0), [])) 0 8) → Calls Tryz.prog 40 #[.pointer (some ⟨C.q, 0, none⟩), .int .i64 0, .int .i64 1] W fun e w2 => e = .returned (.tuple #[.int .i64 96, .int .i64 0]) ∧
      Calls Tryz.prog 35 #[.pointer (some ⟨C.q, 0, none⟩), .int .i64 0, .int .i64 1] w2 fun e w3 => ∃ A c, e = .returned (.slice A 3 c) ∧ Hid (Sl w3 w3.heap.size A 3 ([64, 32, 0].map iv) ∧ Below w.heap.size w w3)) := hidb (fun W C S hC s => by
    have := c_take s.out (by omega) 0 1 (by rw [hC]; decide) (by decide) (c := (0, 0)) (l := []) rfl
    rw [show caTake (PoolW.plain ⟨⟨8, F, [], 0⟩, ws, false, []⟩) [] ((1 : Nat) : Int) = _ from aw11 hM] at this
    refine this.mono ?_
    rintro e w2 ⟨rfl, S', v', c', k1, _, _⟩
    refine ⟨rfl, (c_listat k1 0 1 (by rw [hC]; decide) (by decide) (c := c') (l := [64, 32, 0]) rfl).mono ?_⟩
    rintro e w3 ⟨A, c, rfl, hP⟩
    exact ⟨A, c, rfl, hidb ⟨hP.out.1, k1.bel.trans (hP.out.2.mono k1.bel.size)⟩⟩)
  have CI : Hid (∀ w3 A c, Hid (Sl w3 w3.heap.size A 3 ([64, 32, 0].map iv) ∧ Below w.heap.size w w3) → Calls Tryz.prog 16 #[.slice A 3 c, .slice (some ⟨w3.heap.size, 0, none⟩) 3 3] (w3.alloc (.cells #[.int .i64 64, .int .i64 32, .int .i64 0] 3)) fun e w4 => e = .returned (.bool true) ∧ Hid (Below w.heap.size w w4)) := hidb (fun w3 A c P => by
    have hb : Below w3.heap.size w3 (w3.alloc (.cells #[.int .i64 64, .int .i64 32, .int .i64 0] 3)) := (Below.refl _ _).alloc (Nat.le_refl _) _
    refine (ref_bints A (some ⟨w3.heap.size, 0, none⟩) 3 c 3 3 [64, 32, 0] [64, 32, 0] _ _ _ ((P.out.1.below hb).more hb.size) (sl_three w3 64 32 0 _) (by omega) (by omega)).mono ?_
    rintro e w4 ⟨rfl, q, rfl⟩
    exact ⟨by simp, hidb (belowN (P.out.2.trans (hb.mono P.out.2.size)) q)⟩)
  have c1' : Calls Tryz.prog 32 #[.int .i64 8, .int .i64 1] w _ := c1
  clear hN hM c1
  go_enter Tryz.func31, Tryz.ntmps31
  go_wp2_with (first
    | (go_at_call 32; (with_reducible refine c1'.mono ?_); rintro e w1 ⟨C, S, rfl, hCN, s1⟩; have c2 := C2.out _ _ _ hCN s1; clear s1)
    | (go_at_call 40; (with_reducible refine c2.mono ?_); rintro e w2 ⟨rfl, c3⟩)
    | (go_at_call 35; (with_reducible refine c3.mono ?_); rintro e w3 ⟨A, c, rfl, P3⟩; have ci := CI.out _ _ c P3)
    | (go_at_call 16; (with_reducible refine ci.mono ?_); rintro e w4 ⟨rfl, P⟩))
  go_ret
  exact ⟨rfl, P.out⟩

end Go.Proofs.YtcgfmpegakpddaaGreat
