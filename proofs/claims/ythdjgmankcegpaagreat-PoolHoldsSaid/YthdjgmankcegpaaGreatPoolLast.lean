/- Layer 9's statement on the block that was given back last. -/
import Derived.Test.YthdjgmankcegpaaGreatPoolLaws1
namespace Go.Proofs.YthdjgmankcegpaaGreat
open Go.RowKit
set_option linter.unusedVariables false

/-- Numbers that came in. -/
theorem read_ids9b {H : Type} {enc : TypeId × Value → H} {W : World} {sp : Nat → Bool} {hd : Bool} {v : Value} {d : DataW H} {ps : List MemPlace} (h : DataW.Trod enc Tryz.prog W 0 sp hd 38 v d ps) :
    ∃ (A : Option Addr) (len cap : Nat) (l : List Int), v.cells.toList = [.slice A len cap] ∧ len ≤ maxLen ∧ Sl W W.heap.size A len (l.map iv) ∧ ∀ i ∈ l, in64 i := by
  obtain ⟨fuel, hf⟩ := h
  obtain ⟨A, len, cap, zs, e1, hlen, hsl, hwf⟩ := read_ints Tryz.underlying38 Tryz.underlying3 (by kernel_rfl) hf
  exact ⟨A, len, cap, zs, e1, hlen, hsl, fun x hx => wf_in64 (hwf x hx)⟩

theorem pTake_held (p : PoolV) (order : Int) : (pTake p order).1.held = p.held := by
  unfold pTake
  split
  · rfl
  · cases pFirst p.l order 0 true with
    | some i =>
      simp only
      cases p.l[i]? <;> rfl
    | none =>
      simp only
      split <;> rfl
theorem pSweep_held (p : PoolV) : (pSweep p).held = p.held := by
  unfold pSweep
  split <;> rfl

/-- How many blocks a List of an order has. -/
def listLen (l : PL) (order : Int) : Nat := ((l.filter fun c => c.1.2.2.2 == order).map (·.2.length)).sum
theorem list_len {w W : World} {p hp : Nat} {S : Nat → Prop} {v : PoolW} {k : Nat} {pages : Int} (s : PoolSt w W p hp S v k pages) {ds : List CutV} (h : InOrderP v.ks ds) (order : Int) : ((ds.filter (fun k => k.s.2.2.2 == order)).flatMap (·.l)).length = listLen v.plain.l order := by
  obtain ⟨Sh, ap, g, mb, n, m, D, q1, o, q3⟩ := s.pl
  have hp1 : ds.Perm v.ks := (List.perm_ext_iff_of_nodup (nodup_of_mapK h.1) (nodup_of_mapK o.ids)).2 h.2.1
  unfold listLen
  have e1 : ((v.plain.l.filter fun c => c.1.2.2.2 == order).map (·.2.length)) = ((v.ks.filter (fun k => k.s.2.2.2 == order)).map (·.l.length)) := by
    show (((v.ks.map CutV.plain).filter fun c => c.1.2.2.2 == order).map (·.2.length)) = _
    rw [List.filter_map, List.map_map]
    rfl
  rw [e1, List.length_flatMap]
  exact ((hp1.filter _).map _).sum_nat
section
variable {w W : World} {p hp : Nat} {S : Nat → Prop} {v : PoolW} {k : Nat} {pages : Int}
theorem t_plen (s : PoolSt w W p hp S v k pages) (order : Int) (n : Nat) (e : listLen v.plain.l order = n) : Calls Tryz.prog 15 #[.pointer (some ⟨p, 0, none⟩), .int .i64 order] W fun e w' => (∃ A c, e = .returned (.slice A n c)) ∧ Below W.heap.size W w' := by
  refine (t_plist s order).mono ?_
  rintro e' w' ⟨ds, h1, A, c, rfl, _, hb⟩
  exact ⟨⟨A, c, by rw [list_len s h1 order, e]⟩, hb⟩
theorem orderP_of {ks : List CutV} {x : Int} {i : Nat} {s : Int × Int × Int × Int} {r : List Int} (h1 : pOf (ks.map CutV.plain) x = some i) (h2 : (ks.map CutV.plain)[i]? = some (s, r)) (h3 : x ∉ r) : orderP ks x = s.2.2.2 := by
  rcases cut_of ks x with ⟨_, e⟩ | ⟨c, j, e1, e2, e3⟩
  · rw [e] at h1; cases h1
  · rw [e2] at h1
    obtain rfl := Option.some.inj h1
    rw [List.getElem?_map, e3] at h2
    have h2' : (c.s, c.l) = (s, r) := Option.some.inj h2
    injection h2' with a1 a2
    unfold orderP
    rw [e1]
    simp only
    rw [a2, if_neg h3, a1]
/-- The calls behind the last Take that asks. -/
theorem last_calls (s : PoolSt w W p hp S v k pages) (hk : k + 2 ≤ 1000000000) (hh : v.held = true) (order : Int) (ho : in64 order) (p1 : PoolV) (at' : Int) (e : pTake v.plain order = (p1, at', 0)) :
    Calls Tryz.prog 30 #[.pointer (some ⟨p, 0, none⟩), .int .i64 order] W fun e w1 => e = .returned (.tuple #[.int .i64 at', .int .i64 0]) ∧ ∃ n : Nat,
      Calls Tryz.prog 15 #[.pointer (some ⟨p, 0, none⟩), .int .i64 order] w1 fun e w2 => (∃ A c, e = .returned (.slice A n c)) ∧
        ∀ W3, (W3 = w2.alloc (.cells #[.int .i64 at'] 3) ∨ W3 = (w2.alloc (.cells #[.int .i64 at'] 3)).drew) →
          Calls Tryz.prog 31 #[.pointer (some ⟨p, 0, none⟩), .slice (some ⟨w2.heap.size, 0, none⟩) 1 1] W3 fun e w4 => e = .returned (.int .i64 0) ∧
            Calls Tryz.prog 30 #[.pointer (some ⟨p, 0, none⟩), .int .i64 order] w4 fun e w5 => e = .returned (.tuple #[.int .i64 at', .int .i64 0]) ∧
              Calls Tryz.prog 15 #[.pointer (some ⟨p, 0, none⟩), .int .i64 order] w5 fun e w6 => (∃ A c, e = .returned (.slice A n c)) ∧
                Calls Tryz.prog 17 #[.pointer (some ⟨p, 0, none⟩), .int .i64 at'] w6 fun e w7 => e = .returned (.int .i64 order) ∧ Below w.heap.size w w7 := by
  refine (t_ptake s (by omega) order ho p1 at' 0 e).mono ?_
  rintro e1 w1 ⟨rfl, S1, v1, s1, hv1, _⟩
  subst hv1
  obtain ⟨p2, i, sp, r, hg, ht2, hof, hget, hnr, hso, hh1⟩ := last_again s.pok s1.pok hh e
  refine ⟨rfl, listLen v1.plain.l order, (t_plen s1 order _ rfl).mono ?_⟩
  rintro e2 w2 ⟨⟨A, c, rfl⟩, hb2⟩
  refine ⟨⟨A, c, rfl⟩, fun W3 hW3 => ?_⟩
  have s2 := s1.below hb2
  have hb3 : Below w2.heap.size w2 W3 := by
    rcases hW3 with rfl | rfl
    · exact (Below.refl _ _).alloc (Nat.le_refl _) _
    · exact ((Below.refl _ _).alloc (Nat.le_refl _) _).drew
  have s3 := s2.below hb3
  have hsl : Sl W3 W3.heap.size (some ⟨w2.heap.size, 0, none⟩) 1 ([at'].map iv) := by
    rcases hW3 with rfl | rfl
    · exact Sl.oneI w2 at' _
    · exact Sl.oneI w2 at' _
  have h64 : in64 at' := by
    have hcm := List.mem_of_getElem? hget
    obtain ⟨c, hc, hx⟩ := pOf_spec hof
    rw [hget] at hc
    obtain rfl := Option.some.inj hc
    have o := s1.pok
    obtain ⟨f1, f2, f3⟩ := o.four _ hcm
    have h1 := blocks_in hx f1 ⟨f2, f3⟩
    have h2 := o.hok.start (o.mem _ hcm)
    have h3 := o.hok.p1
    have h4 := pSize_pos sp.2.2.2
    simp only at h1 h2
    rw [f1] at h2
    unfold in64
    omega
  refine (t_pgive s3 (some ⟨w2.heap.size, 0, none⟩) 1 1 [at'] hsl (fun a ha hS => by
    injection ha with ha
    subst ha
    have := s2.lt _ hS
    simp at this) (by omega) (fun x hx => by obtain rfl := List.mem_singleton.1 hx; exact h64) p2 0 hg).mono ?_
  rintro e4 w4 ⟨rfl, S4, v4, s4, hv4, _⟩
  refine ⟨rfl, (t_ptake s4 (by omega) order ho v1.plain at' 0 (by rw [hv4]; exact ht2)).mono ?_⟩
  rintro e5 w5 ⟨rfl, S5, v5, s5, hv5, _⟩
  refine ⟨rfl, (t_plen s5 order _ (by rw [hv5])).mono ?_⟩
  rintro e6 w6 ⟨⟨A6, c6, rfl⟩, hb6⟩
  have s6 := s5.below hb6
  have hl5 : v5.ks.map CutV.plain = v1.plain.l := congrArg PoolV.l hv5
  refine ⟨⟨A6, c6, rfl⟩, (t_porder s6 at' h64 order (by
    rw [← hso]
    exact orderP_of (by rw [hl5]; exact hof) (by rw [hl5]; exact hget) hnr)).mono ?_⟩
  rintro e7 w7 ⟨rfl, hb7⟩
  exact ⟨rfl, s6.bel.trans (hb7.mono s6.bel.size)⟩
end

set_option maxRecDepth 100000 in
set_option maxHeartbeats 4000000 in
theorem poolLast_any (pages order : Int) (A : Option Addr) (m c : Nat) (l : List Int) (w : World) (h0 : in64 pages) (h2 : in64 order) (hm : m ≤ maxLen) (hs : Sl w w.heap.size A m (l.map iv)) (hid : ∀ i ∈ l, in64 i) :
    Calls Tryz.prog 7 #[.int .i64 pages, .slice A m c, .int .i64 order] w fun e w' => e = .returned (.bool true) ∧ Below w.heap.size w w' := by
  have cw := fun W => awake9 W
  unfold maxLen at hm
  by_cases g0 : pages < 4
  · clear hs hid
    go_enter Tryz.func7, Tryz.ntmps7
    go_wp2_with (go_at_call 8; (with_reducible refine (cw _).mono ?_); rintro e w1 ⟨rfl, hb⟩)
    go_ret
    exact ⟨rfl, hb⟩
  by_cases g1 : 40 < pages
  · clear hs hid
    go_enter Tryz.func7, Tryz.ntmps7
    go_wp2_with (go_at_call 8; (with_reducible refine (cw _).mono ?_); rintro e w1 ⟨rfl, hb⟩)
    go_ret
    exact ⟨rfl, hb⟩
  by_cases g2 : 60 < m
  · have g3 : (60 : Int) < (m : Int) := by omega
    clear hs hid
    go_enter Tryz.func7, Tryz.ntmps7
    go_wp2_with (go_at_call 8; (with_reducible refine (cw _).mono ?_); rintro e w1 ⟨rfl, hb⟩)
    go_ret
    exact ⟨rfl, hb⟩
  have g3 : ¬ (60 : Int) < (m : Int) := by omega
  obtain ⟨F, ws, _, cn⟩ := code_made pages w (by omega) (by omega)
  have HR := hidb hs
  have HID := hidb hid
  clear hs hid
  have CH : Hid (∀ W p hp S, PoolSt w W p hp S ⟨⟨pages, F, [], 0⟩, ws, false, []⟩ 0 pages → Calls Tryz.prog 29 #[.pointer (some ⟨p, 0, none⟩), .bool true] W fun e w' => e = .returned (.bool false) ∧ ∃ S' v', PoolSt w w' p hp S' v' 0 pages ∧ v'.held = true) := hidb (fun W p hp S s => (t_phold s true _ false rfl rfl).mono (by
    rintro e w' ⟨rfl, S', v', s', hv, _⟩
    have h := congrArg PoolV.held hv
    rw [pSweep_held] at h
    exact ⟨rfl, S', v', s', h⟩))
  have CT : Hid (∀ W p hp S (v : PoolW) j x, (PoolSt w W p hp S v j pages ∧ v.held = true) → j < m → in64 x → Calls Tryz.prog 30 #[.pointer (some ⟨p, 0, none⟩), .int .i64 x] W fun e w' => (∃ at' no, e = .returned (.tuple #[.int .i64 at', .int .i64 no])) ∧ ∃ S' v', PoolSt w w' p hp S' v' (j + 1) pages ∧ v'.held = true) := hidb (fun W p hp S v j x s hj hx => by
    obtain ⟨⟨p1, a1, no⟩, hT⟩ : ∃ r, pTake v.plain x = r := ⟨_, rfl⟩
    refine (t_ptake s.1 (by omega) x hx p1 a1 no hT).mono ?_
    rintro e w' ⟨rfl, S', v', s', hv, _⟩
    have h := pTake_held v.plain x
    rw [hT, ← hv] at h
    exact ⟨⟨_, _, rfl⟩, S', v', s', h.trans s.2⟩)
  go_enter Tryz.func7, Tryz.ntmps7
  go_wp2_with (first
    | (go_at_call 9; (with_reducible refine cn.mono ?_); rintro e w1 ⟨hp, ap, p, S, rfl, s1⟩; have ch := CH.out _ _ _ _ s1; clear s1)
    | (go_at_call 29; (with_reducible refine ch.mono ?_); rintro e w2 ⟨rfl, S2, v2, s2, hh2⟩; have HS := hidb (And.intro s2 hh2); clear s2 hh2))
  clear cn CH
  go_loopw [10] (fun v wr => ∃ (j : Nat) (S' : Nat → Prop) (u : PoolW), j ≤ m ∧ v = .int .i64 j ∧ Hid (PoolSt w wr p hp S' u j pages ∧ u.held = true)) (fun v _ => (m - intOf v).toNat)
  case atStart => exact ⟨0, S2, v2, Nat.zero_le _, rfl, HS⟩
  case round =>
    obtain ⟨j, S', u, hj, rfl, HS1⟩ := hrel
    by_cases hlt : j < m
    · obtain ⟨b, off, x, rfl, hx, hc⟩ := (HR.out.below HS1.out.1.bel).int_ hlt
      have hx64 := HID.out x (List.mem_of_getElem? hx)
      have ct := CT.out wr p hp S' u j x HS1.out hlt hx64
      have hi0 : (0 : Int) ≤ (j : Int) := by omega
      have hi1 : (j : Int) < (m : Int) := by omega
      clear hx
      go_wp2_with (first
        | (go_at_call 30; (with_reducible refine ct.mono ?_); rintro e w3 ⟨⟨at', no, rfl⟩, S3, v3, s3, hh3⟩; have HS3 := hidb (And.intro s3 hh3); clear s3 hh3))
      go_roundw
      case rel => exact ⟨j + 1, S3, v3, by omega, by go_num, HS3⟩
      case measure => simp [intOf]; omega
    · obtain rfl : j = m := by omega
      clear CT
      obtain ⟨⟨p1, at', no⟩, hT⟩ : ∃ r, pTake u.plain order = r := ⟨_, rfl⟩
      by_cases hno : no = 0
      · subst hno
        have c1 := last_calls HS1.out.1 (by omega) HS1.out.2 order h2 p1 at' hT
        clear hT
        go_wp2_with (first
          | (go_at_call 30; (with_reducible refine c1.mono ?_); rintro e w3 ⟨rfl, n, c2⟩)
          | (go_at_call 15; (with_reducible refine c2.mono ?_); rintro e w4 ⟨⟨A4, k4, rfl⟩, c3⟩; have c3a := c3 _ (Or.inl rfl); have c3b := c3 _ (Or.inr rfl); clear c3)
          | (go_at_call 31; (with_reducible refine c3a.mono ?_); rintro e w5 ⟨rfl, c4⟩)
          | (go_at_call 31; (with_reducible refine c3b.mono ?_); rintro e w5 ⟨rfl, c4⟩)
          | (go_at_call 30; (with_reducible refine c4.mono ?_); rintro e w6 ⟨rfl, c5⟩)
          | (go_at_call 15; (with_reducible refine c5.mono ?_); rintro e w7 ⟨⟨A7, k7, rfl⟩, c6⟩)
          | (go_at_call 17; (with_reducible refine c6.mono ?_); rintro e w8 ⟨rfl, hb8⟩)
          | (go_at_call 8; (with_reducible refine (cw _).mono ?_); rintro e w9 ⟨rfl, hb9⟩))
        go_ret
        exact ⟨rfl, hb8.trans (hb9.mono hb8.size)⟩
      · have c1 := t_ptake HS1.out.1 (by omega) order h2 p1 at' no hT
        clear hT
        go_wp2_with (first
          | (go_at_call 30; (with_reducible refine c1.mono ?_); rintro e w3 ⟨rfl, S3, v3, s3, _⟩; have B3 := hidb s3.bel; clear s3)
          | (go_at_call 8; (with_reducible refine (cw _).mono ?_); rintro e w9 ⟨rfl, hb9⟩))
        go_ret
        exact ⟨rfl, B3.out.trans (hb9.mono B3.out.size)⟩

end Go.Proofs.YthdjgmankcegpaaGreat
