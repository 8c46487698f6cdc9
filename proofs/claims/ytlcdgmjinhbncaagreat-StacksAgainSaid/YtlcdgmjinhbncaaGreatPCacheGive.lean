/- Give of caches. -/
import Derived.Test.YtlcdgmjinhbncaaGreatPCacheGive0
import Derived.Deep.Cut
import Derived.Deep.CutRange
import Derived.Deep.RegionLaw
namespace Go.Proofs.YtlcdgmjinhbncaaGreat
open Go.RowKit Go.Maps
set_option linter.unusedVariables false

theorem metX {X w1 : World} {v : Value} {t : TypeId} (hb : Below (X.alloc (.cells #[v] t)).heap.size (X.alloc (.cells #[v] t)) w1) : Boxed w1 X.heap.size t v := (hb.block _ (by simp)).trans (Boxed.new X t v)
theorem metXd {X w1 : World} {v : Value} {t : TypeId} (hb : Below (X.alloc (.cells #[v] t)).drew.heap.size (X.alloc (.cells #[v] t)).drew w1) : Boxed w1 X.heap.size t v := metX ⟨hb.os, hb.tape, hb.output, hb.size, hb.block⟩
theorem metY {X w1 : World} {b : Nat} {v : Value} {t : TypeId} (hb : Below X.heap.size X w1) (h : Boxed X b t v) : Boxed w1 b t v := (hb.block b h.lt).trans h
theorem metEndA {W0 w1 : World} {M : List Int} {A : Option Addr} {n d b4 b6 : Nat} {x4 x6 : Value} (hB : Below W0.heap.size W0 w1) (HM : Hid (w1.ownsRow W0.heap.size 3 1 (.slice A n d) n (M.map iv) ∧ M.length = n)) (t4 : w1.cell? ⟨b4, 0, none⟩ = some x4) (t6 : w1.cell? ⟨b6, 0, none⟩ = some x6) :
    Hid (MetSt W0 (w1.alloc (.cells #[.slice A n d] 38)) w1.heap.size M A n d) ∧ (w1.alloc (.cells #[.slice A n d] 38)).cell? ⟨b4, 0, none⟩ = some x4 ∧ (w1.alloc (.cells #[.slice A n d] 38)).cell? ⟨b6, 0, none⟩ = some x6 :=
  ⟨hidb ⟨Boxed.new _ _ _, HM.out.1.alloc _, HM.out.2, hB.alloc hB.size _, hB.size⟩, alloc_old _ t4, alloc_old _ t6⟩
theorem metEndB {W0 w1 : World} {M : List Int} {A : Option Addr} {n d b b4 b6 : Nat} {x4 x6 : Value} (hB : Below W0.heap.size W0 w1) (HM : Hid (w1.ownsRow W0.heap.size 3 1 (.slice A n d) n (M.map iv) ∧ M.length = n)) (t4 : w1.cell? ⟨b4, 0, none⟩ = some x4) (t6 : w1.cell? ⟨b6, 0, none⟩ = some x6) (nm : Boxed w1 b 38 (.slice none 0 0)) (hb : W0.heap.size ≤ b) (h4 : b4 < W0.heap.size) (h6 : b6 < W0.heap.size) :
    Hid (MetSt W0 (w1.setCell ⟨b, 0, none⟩ (.slice A n d)) b M A n d) ∧ (w1.setCell ⟨b, 0, none⟩ (.slice A n d)).cell? ⟨b4, 0, none⟩ = some x4 ∧ (w1.setCell ⟨b, 0, none⟩ (.slice A n d)).cell? ⟨b6, 0, none⟩ = some x6 := by
  refine ⟨hidb ⟨nm.set _, own_kept HM.out.1 ((Kept.refl (fun x => x = b) w1).set (a := ⟨b, 0, none⟩) (Or.inl rfl) _) (fun x hx e => nm.not_row int_intsC HM.out.1 (by rw [hx, e])), HM.out.2, hB.setCell (p := ⟨b, 0, none⟩) hb _, hb⟩, ?_, ?_⟩
  · rw [World.cell?_setCell_other _ _ _ _ (fun e => by injection e with e1; omega)]; exact t4
  · rw [World.cell?_setCell_other _ _ _ _ (fun e => by injection e with e1; omega)]; exact t6
/-- One block is put in front of a list, that is emptied to a half if it is full. -/
def caPut (o : Int) (s : PoolV × List Int) (x : Int) : PoolV × List Int := if 256 ≤ s.2.length * pSize o then ((caEmpty 128 o s.1 s.2).1, x :: (caEmpty 128 o s.1 s.2).2) else (s.1, x :: s.2)
def caBad (ks : List CutV) (o : Int) (xs : List Int) : Bool := (List.range xs.length).any fun j => orderP ks (xs.getD j 0) != o
def caClash (M xs : List Int) : Bool := (List.range xs.length).any fun j => decide (xs.getD j 0 ∈ M ++ xs.take j)
/-- Give: the pool, the list, the error. -/
def caGive (v : PoolW) (M l : List Int) (o : Int) (xs : List Int) : PoolV × List Int × Int :=
  if caBad v.ks o xs then (v.plain, l, 2) else if caClash M xs then (v.plain, l, 9) else ((xs.foldl (caPut o) (v.plain, l)).1, (xs.foldl (caPut o) (v.plain, l)).2, 0)

section
variable {F : CaF} {w W : World} {S : Nat → Prop} {v : PoolW} {cs : List CL} {k : Nat} {pages : Int}
def CGave (F : CaF) (w W : World) (S : Nat → Prop) (cs : List CL) (i k : Nat) (pages : Int) (R : PoolV × List Int × Int) (e : Ending) (w' : World) : Prop :=
  e = .returned (.int .i64 R.2.2) ∧ ∃ S' v' c', CaSt F w w' S' v' (cs.set i (c', R.2.1)) k pages ∧ v'.plain = R.1 ∧ SideP S W S' w'
/-- Where Give's loop stands: the first j blocks are in the list. -/
def GiveIt (F : CaF) (w w2 : World) (S : Nat → Prop) (v : PoolW) (cs : List CL) (l : List Int) (o : Int) (xs : List Int) (i k : Nat) (pages : Int) (j : Nat) (wr : World) : Prop :=
  ∃ S' u c' l', CaSt F w wr S' u (cs.set i (c', l')) k pages ∧ SideP S w2 S' wr ∧ (xs.take j).foldl (caPut o) (v.plain, l) = (u.plain, l') ∧ ∀ m y, j ≤ m → xs[m]? = some y → OutQ u.plain.l y o ∧ ∀ d ∈ cs.set i (c', l'), y ∉ d.2
theorem out_of_order {v : PoolW} {x o : Int} (h : orderP v.ks x = o) (ho : 0 ≤ o) : OutQ v.plain.l x o := by
  unfold orderP at h
  cases hc : cutAtP v.ks x with
  | none => rw [hc] at h; simp only at h; omega
  | some q =>
    rw [hc] at h
    simp only at h
    obtain ⟨h1, h2⟩ := cutAtP_mem hc
    by_cases hin : x ∈ q.l
    · rw [if_pos hin] at h; omega
    · rw [if_neg hin] at h
      exact ⟨q.plain, List.mem_map.2 ⟨q, h1, rfl⟩, h2, hin, h⟩
theorem flat_nodup : ∀ {cs : List CL}, (∀ c ∈ cs, c.2.Nodup) → cs.Pairwise (fun c d => ∀ x ∈ c.2, x ∉ d.2) → (cs.flatMap (·.2)).Nodup
  | [], _, _ => List.nodup_nil
  | c :: cs, h, hp => by
    obtain ⟨p1, p2⟩ := List.pairwise_cons.1 hp
    rw [List.flatMap_cons]
    refine List.nodup_append.2 ⟨h c (List.mem_cons_self ..), flat_nodup (fun d hd => h d (List.mem_cons_of_mem _ hd)) p2, fun a ha b hb e => ?_⟩
    obtain ⟨d, hd, hbd⟩ := List.mem_flatMap.1 hb
    exact p1 d hd a ha (e ▸ hbd)
theorem CaSt.flat (s : CaSt F w W S v cs k pages) : (cs.flatMap (·.2)).Nodup ∧ ∀ x ∈ cs.flatMap (·.2), 0 ≤ x ∧ x < (F.n : Int) := by
  obtain ⟨Sh, m, D, q1, q2, q3⟩ := s.pl
  refine ⟨flat_nodup (fun c hc => (s.nodup hc).2.2.2.2.1) (List.pairwise_iff_getElem.2 fun i j hi hj hij => s.ok.apart i j _ _ (List.getElem?_eq_getElem hi) (List.getElem?_eq_getElem hj) (by omega)), fun x hx => ?_⟩
  obtain ⟨c, hc, hxc⟩ := List.mem_flatMap.1 hx
  have := (s.nodup hc).2.2.2.2.2 x hxc
  rw [q1.ar.hlen] at this
  exact this
theorem allOf_few (s : CaSt F w W S v cs k pages) : (allOf cs).length ≤ 65536 := by
  obtain ⟨h1, h2⟩ := s.flat
  have h3 := sub_lenP (m := (List.range F.n).map fun i : Nat => (i : Int)) h1 fun x hx => by
    have := h2 x hx
    exact List.mem_map.2 ⟨x.toNat, List.mem_range.2 (by omega), by omega⟩
  rw [List.length_map, List.length_range] at h3
  obtain ⟨Sh, m, D, q1, q2, q3⟩ := s.pl
  have := q1.ar.small
  unfold allOf
  rw [sortI_length]
  omega
set_option maxHeartbeats 4000000 in
set_option maxRecDepth 100000 in
theorem c_give (s : CaSt F w W S v cs k pages) (proc order : Nat) (h1 : proc < F.N) (h2 : order < 4) {c : Int × Int} {l : List Int} (hi : cs[4 * proc + order]? = some (c, l)) (AI : Option Addr) (N cI : Nat) (xs : List Int) (hs : Sl W W.heap.size AI N (xs.map iv)) (hA : 0 < N → ∀ a, AI = some a → ¬ S a.block) (hN : N ≤ 10000) (hx : ∀ x ∈ xs, in64 x) :
    Calls Tryz.prog 41 #[.pointer (some ⟨F.q, 0, none⟩), .int .i64 proc, .int .i64 order, .slice AI N cI] W (CGave F w W S cs (4 * proc + order) k pages (caGive v (allOf cs) l order xs)) := by
  have him : (4 * proc + order) % 4 = order := by omega
  obtain ⟨i, hii⟩ : ∃ i, 4 * proc + order = i := ⟨_, rfl⟩
  have CL0 : Hid (∀ W', Below W.heap.size W W' → Calls Tryz.prog 96 #[.pointer (some ⟨F.q, 0, none⟩), .int .i64 proc, .int .i64 order] W' fun e w' => e = .returned (.pointer (some ⟨F.rb, 2 * i, none⟩)) ∧ Below W'.heap.size W' w') := hidb (fun W' hb => by
    have := c_list (s.below hb) proc order h1 h2
    rw [hii] at this
    exact this)
  rw [hii] at hi him ⊢
  have hM := allOf_few s
  obtain ⟨M, hMd⟩ : ∃ M, allOf cs = M := ⟨_, rfl⟩
  rw [hMd] at hM ⊢
  obtain ⟨W0, hW0⟩ : ∃ W0, W0 = (W.alloc (.cells #[.pointer (some ⟨F.q, 0, none⟩)] 62)).alloc (.cells #[.int .i64 order] 3) := ⟨_, rfl⟩
  have HBW : Hid (Below W.heap.size W W0) := hidb (by rw [hW0]; exact ((Below.refl _ _).alloc (Nat.le_refl _) _).alloc (by simp) _)
  have hz0 : W0.heap.size = W.heap.size + 2 := by rw [hW0]; simp
  have hB : Below W0.heap.size W0 W0 := Below.refl _ _
  have t4 : W0.cell? ⟨W.heap.size, 0, none⟩ = some (.pointer (some ⟨F.q, 0, none⟩)) := by rw [hW0]; exact alloc_old _ (World.cell?_alloc_at _ _ _ 0 (by simp))
  have t6 : W0.cell? ⟨W.heap.size + 1, 0, none⟩ = some (.int .i64 order) := by rw [hW0]; simp [go_sem]
  have cl : ∀ X, Below W0.heap.size W0 X → X.cell? ⟨W.heap.size, 0, none⟩ = some (.pointer (some ⟨F.q, 0, none⟩)) → X.cell? ⟨W.heap.size + 1, 0, none⟩ = some (.int .i64 order) → Calls Tryz.prog 96 #[.pointer (some ⟨F.q, 0, none⟩), .int .i64 proc, .int .i64 order] X fun e w' => e = .returned (.pointer (some ⟨F.rb, 2 * i, none⟩)) ∧ (w'.cell? ⟨W.heap.size, 0, none⟩ = some (.pointer (some ⟨F.q, 0, none⟩)) ∧ w'.cell? ⟨W.heap.size + 1, 0, none⟩ = some (.int .i64 order)) ∧ Below X.heap.size X w' := fun X hb h4 h6 => (CL0.out X (HBW.out.trans (hb.mono HBW.out.size))).mono fun e w' ⟨h1, h2⟩ => ⟨h1, ⟨(h2.cell (p := ⟨W.heap.size, 0, none⟩) (lt_of_cell h4)).trans h4, (h2.cell (p := ⟨W.heap.size + 1, 0, none⟩) (lt_of_cell h6)).trans h6⟩, h2⟩
  have ca : ∀ X, Below W0.heap.size W0 X → X.cell? ⟨W.heap.size, 0, none⟩ = some (.pointer (some ⟨F.q, 0, none⟩)) → X.cell? ⟨W.heap.size + 1, 0, none⟩ = some (.int .i64 order) → Calls Tryz.prog 36 #[.pointer (some ⟨F.q, 0, none⟩)] X fun e w' => (∃ A n d, e = .returned (.slice A n d) ∧ Hid (w'.ownsRow W0.heap.size 3 1 (.slice A n d) n (M.map iv) ∧ M.length = n)) ∧ (w'.cell? ⟨W.heap.size, 0, none⟩ = some (.pointer (some ⟨F.q, 0, none⟩)) ∧ w'.cell? ⟨W.heap.size + 1, 0, none⟩ = some (.int .i64 order)) ∧ Below X.heap.size X w' := fun X hb h4 h6 => (c_all (s.below (HBW.out.trans (hb.mono HBW.out.size)))).mono fun e w' ⟨A, d, h1, h2, h3⟩ => by
    rw [hMd] at h1 h2
    exact ⟨⟨A, _, d, h1, hidb ⟨own_lower h2 hb.size, rfl⟩⟩, ⟨(h3.cell (p := ⟨W.heap.size, 0, none⟩) (lt_of_cell h4)).trans h4, (h3.cell (p := ⟨W.heap.size + 1, 0, none⟩) (lt_of_cell h6)).trans h6⟩, h3⟩
  have hlt := HBW.out.size
  have t4a := alloc_old (.cells #[.slice none 0 0] 38) t4
  have t6a := alloc_old (.cells #[.slice none 0 0] 38) t6
  have HS := hidb s
  have HX := hidb hx
  have HSL := hidb hs
  have HAA := hidb hA
  have HI := hidb hi
  have HZ0 := hidb hz0
  clear s hx hs hA hi hz0
  go_enter Tryz.func41, Tryz.ntmps41
  go_wp2
  rw [← hW0]
  clear hW0
  go_cut [9, 10] from 13 to 18 (fun v9 v10 wx => v9 = .pointer (some ⟨F.rb, 2 * i, none⟩) ∧ ∃ (t : Nat) (A : Option Addr) (n d : Nat), v10 = .pointer (some ⟨t, 0, none⟩) ∧ Hid (MetSt W0 wx t M A n d) ∧ wx.cell? ⟨W.heap.size, 0, none⟩ = some (.pointer (some ⟨F.q, 0, none⟩)) ∧ wx.cell? ⟨W.heap.size + 1, 0, none⟩ = some (.int .i64 order))
  case first =>
    --@1
    have nm : True := trivial
    have HM : True := trivial
    go_region_law (first
      | (go_simp; go_at_call 96; (refine (cl _ (by first | exact hB | exact hB.drew | exact hB.alloc hB.size _ | exact (hB.alloc hB.size _).drew) (by first | exact t4 | exact alloc_old _ t4) (by first | exact t6 | exact alloc_old _ t6)).mono ?_); rintro e w1 ⟨rfl, ⟨t4, t6⟩, hb⟩; have hB : Below W0.heap.size W0 w1 := (by first | exact hB.trans (hb.mono hB.size) | exact hB.drew.trans (hb.mono hB.drew.size) | exact (hB.alloc hB.size (.cells #[.slice none 0 0] 38)).trans (hb.mono (hB.alloc hB.size _).size) | exact (hB.alloc hB.size (.cells #[.slice none 0 0] 38)).drew.trans (hb.mono (hB.alloc hB.size _).drew.size)); have nm := (by first | exact metX hb | exact metXd hb | exact metY hb nm | exact trivial); have n0 := (by first | exact nm.cell | exact trivial); have n1 := (by first | exact nm.frozen | exact trivial); have HM := (by first | exact hidb (And.intro (own_below HM.out.1 hb) HM.out.2) | exact hidb (And.intro (own_below (HM.out.1.alloc _) hb) HM.out.2) | exact trivial); have t4a := alloc_old (.cells #[.slice none 0 0] 38) t4; have t6a := alloc_old (.cells #[.slice none 0 0] 38) t6; have hzz := hB.size; clear hb)
      | (go_simp; go_at_call 36; (refine (ca _ (by first | exact hB | exact hB.drew | exact hB.alloc hB.size _ | exact (hB.alloc hB.size _).drew) (by first | exact t4 | exact alloc_old _ t4) (by first | exact t6 | exact alloc_old _ t6)).mono ?_); rintro e w1 ⟨⟨A, n, d, rfl, HM⟩, ⟨t4, t6⟩, hb⟩; have hB : Below W0.heap.size W0 w1 := (by first | exact hB.trans (hb.mono hB.size) | exact hB.drew.trans (hb.mono hB.drew.size) | exact (hB.alloc hB.size (.cells #[.slice none 0 0] 38)).trans (hb.mono (hB.alloc hB.size _).size) | exact (hB.alloc hB.size (.cells #[.slice none 0 0] 38)).drew.trans (hb.mono (hB.alloc hB.size _).drew.size)); have nm := (by first | exact metX hb | exact metXd hb | exact metY hb nm | exact trivial); have n0 := (by first | exact nm.cell | exact trivial); have n1 := (by first | exact nm.frozen | exact trivial); have t4a := alloc_old (.cells #[.slice none 0 0] 38) t4; have t6a := alloc_old (.cells #[.slice none 0 0] 38) t6; have hzz := hB.size; clear hb))
    all_goals
      go_wp2_with fail
      go_meet
      first
        | exact ⟨rfl, _, _, _, _, rfl, metEndA hB HM t4 t6⟩
        | exact ⟨rfl, _, _, _, _, rfl, metEndB hB HM t4 t6 nm (by omega) (by have := HZ0.out; omega) (by have := HZ0.out; omega)⟩
  case rest =>
    clear t4 t6 t4a t6a cl ca hB hlt
    obtain ⟨rfl, t, A, n, d, rfl, HME, t4, t6⟩ := hcut
    have hxl : xs.length = N := by have := HSL.out.1; simpa using this
    have hb0 := HME.out.bel
    have hbc : Below W.heap.size W wc := HBW.out.trans (hb0.mono HBW.out.size)
    have k1 := code_cg1_has (s := W.heap.size) (t := W.heap.size + 1) (fun j => orderP v.ks (xs.getD j 0) != (order : Int)) (fun _ X => Below wc.heap.size wc X) AI N cI xs wc (Below.refl _ _) (fun j X hb => (HSL.out.below (hbc.trans (hb.mono hbc.size))).more (Nat.le_trans hbc.size hb.size)) (fun j z X hz hb => by
      have e : xs.getD j 0 = z := by rw [List.getD_eq_getElem?_getD, hz]; rfl
      refine (c_give1 (HS.out.below (hbc.trans (hb.mono hbc.size))) W.heap.size (W.heap.size + 1) order z ((hb.cell (p := ⟨W.heap.size, 0, none⟩) (lt_of_cell t4)).trans t4) ((hb.cell (p := ⟨W.heap.size + 1, 0, none⟩) (lt_of_cell t6)).trans t6) (HX.out z (List.mem_of_getElem? hz))).mono ?_
      rintro e2 w' ⟨rfl, hb2⟩
      exact ⟨by rw [e], hb.trans (hb2.mono hb.size)⟩) (by omega)
    have C1 : Calls Tryz.prog 103 #[.slice AI N cI, .func (.func 104) #[] #[.pointer (some ⟨W.heap.size, 0, none⟩), .pointer (some ⟨W.heap.size + 1, 0, none⟩)]] wc fun e w' => e = .returned (.bool (caBad v.ks order xs)) ∧ Hid (Below wc.heap.size wc w') := k1.mono fun e w' ⟨h1, j, _, h2⟩ => ⟨by rw [h1]; unfold caBad; rw [hxl], hidb h2⟩
    clear k1
    by_cases hbad : caBad v.ks order xs = true
    · rw [hbad] at C1
      have HE : Hid (∀ w1, Below wc.heap.size wc w1 → CGave F w W S cs i k pages (caGive v M l order xs) (.returned (.int .i64 2)) w1) := hidb (fun w1 hb => by
        have hbw := hbc.trans (hb.mono hbc.size)
        unfold caGive
        rw [if_pos hbad]
        exact ⟨rfl, S, v, c, by rw [set_same HI.out]; exact HS.out.below hbw, rfl, SideP.below hbw⟩)
      clear hbad
      --@2
      go_wp2_with (first
        | (go_at_call 103; (with_reducible refine C1.mono ?_); rintro e w1 ⟨rfl, hb1⟩; have P := hidb (HE.out w1 hb1.out)))
      go_ret
      exact P.out
    have hbad2 : caBad v.ks order xs = false := by simpa using hbad
    rw [hbad2] at C1
    have hz0 := HZ0.out
    have CELLS : Hid (∀ X, Below W0.heap.size W0 X → X.cell? ⟨W.heap.size, 0, none⟩ = some (.pointer (some ⟨F.q, 0, none⟩)) ∧ X.cell? ⟨W.heap.size + 1, 0, none⟩ = some (.int .i64 order)) := hidb (fun X hb => ⟨(hb.cell (p := ⟨W.heap.size, 0, none⟩) (by show W.heap.size < _; omega)).trans ((hb0.cell (p := ⟨W.heap.size, 0, none⟩) (by show W.heap.size < _; omega)).symm.trans t4), (hb.cell (p := ⟨W.heap.size + 1, 0, none⟩) (by show W.heap.size + 1 < _; omega)).trans ((hb0.cell (p := ⟨W.heap.size + 1, 0, none⟩) (by show W.heap.size + 1 < _; omega)).symm.trans t6)⟩)
    have C2 : Hid (∀ w1, Hid (Below wc.heap.size wc w1) → Calls Tryz.prog 103 #[.slice AI N cI, .func (.func 105) #[] #[.pointer (some ⟨t, 0, none⟩)]] w1 fun e w' => e = .returned (.bool (caClash M xs)) ∧ Hid (Below W0.heap.size W0 w')) := hidb (fun w1 hb1 => by
      have m1 := HME.out.below hb1.out
      have k2 := code_cg2_has (t := t) (fun j => decide (xs.getD j 0 ∈ M ++ xs.take j)) (fun j X => j ≤ N ∧ ∃ A' n' d', MetSt W0 X t (M ++ xs.take j) A' n' d') AI N cI xs w1 ⟨Nat.zero_le _, A, n, d, by rw [List.take_zero, List.append_nil]; exact m1⟩ (fun j X ⟨_, A', n', d', hm'⟩ => (HSL.out.below (HBW.out.trans (hm'.bel.mono HBW.out.size))).more (Nat.le_trans HBW.out.size hm'.bel.size)) (fun j z X hz ⟨hj, A', n', d', hm'⟩ => by
        have e : xs.getD j 0 = z := by rw [List.getD_eq_getElem?_getD, hz]; rfl
        have hjl := (List.getElem?_eq_some_iff.1 hz).1
        have hln := hm'.len
        rw [List.length_append, List.length_take] at hln
        refine (c_give2 hm' (by omega) z).mono ?_
        rintro e2 w' ⟨rfl, A2, c2, m2⟩
        refine ⟨by rw [e], by omega, A2, n' + 1, c2, ?_⟩
        rw [List.append_assoc] at m2
        rw [List.take_add_one, hz]
        exact m2) (by omega)
      refine k2.mono ?_
      rintro e w' ⟨rfl, j, _, _, A', n', d', hm'⟩
      exact ⟨by unfold caClash; rw [hxl], hidb hm'.bel⟩)
    by_cases hcl : caClash M xs = true
    · rw [hcl] at C2
      have HE : Hid (∀ w2, Hid (Below W0.heap.size W0 w2) → CGave F w W S cs i k pages (caGive v M l order xs) (.returned (.int .i64 9)) w2) := hidb (fun w2 hb => by
        have hbw := HBW.out.trans (hb.out.mono HBW.out.size)
        unfold caGive
        rw [if_neg hbad, if_pos hcl]
        exact ⟨rfl, S, v, c, by rw [set_same HI.out]; exact HS.out.below hbw, rfl, SideP.below hbw⟩)
      clear hcl hbad hbad2 CELLS hz0
      --@3
      go_wp2_with (first
        | (go_at_call 103; (with_reducible refine C1.mono ?_); rintro e w1 ⟨rfl, hb1⟩; have c2 := C2.out w1 hb1)
        | (go_at_call 103; (with_reducible refine c2.mono ?_); rintro e w2 ⟨rfl, hb2⟩; have P := hidb (HE.out w2 hb2)))
      go_ret
      exact P.out
    have hcl2 : caClash M xs = false := by simpa using hcl
    rw [hcl2] at C2
    have HIV : Hid (∀ w2, Hid (Below W0.heap.size W0 w2) → GiveIt F w w2 S v cs l order xs i k pages 0 w2) := hidb (fun w2 hb => by
      have hbw := HBW.out.trans (hb.out.mono HBW.out.size)
      refine ⟨S, v, c, l, by rw [set_same HI.out]; exact HS.out.below hbw, SideP.below (Below.refl _ _), rfl, fun m y _ hy => ⟨out_of_order ?_ (by omega), ?_⟩⟩
      · unfold caBad at hbad2
        have h3 := (List.any_eq_false.1 hbad2) m (List.mem_range.2 (List.getElem?_eq_some_iff.1 hy).1)
        rw [List.getD_eq_getElem?_getD, hy] at h3
        simpa using h3
      · rw [set_same HI.out]
        intro dd hdd hyd
        unfold caClash at hcl2
        have h3 := (List.any_eq_false.1 hcl2) m (List.mem_range.2 (List.getElem?_eq_some_iff.1 hy).1)
        rw [List.getD_eq_getElem?_getD, hy] at h3
        refine h3 (decide_eq_true (List.mem_append_left _ ?_))
        rw [← hMd]
        exact sortI_mem.2 (List.mem_flatMap.2 ⟨dd, hdd, hyd⟩))
    have HND : Hid (∀ (a b : Nat) y, a < b → xs[a]? = some y → xs[b]? = some y → False) := hidb (fun a b y hab ha hb => by
      unfold caClash at hcl2
      have h3 := (List.any_eq_false.1 hcl2) b (List.mem_range.2 (List.getElem?_eq_some_iff.1 hb).1)
      rw [List.getD_eq_getElem?_getD, hb] at h3
      refine h3 (decide_eq_true (List.mem_append_right _ ?_))
      exact List.mem_of_getElem? (i := a) (by rw [List.getElem?_take]; rw [if_pos hab]; exact ha))
    have HEND : Hid (∀ w2 w3, Hid (Below W0.heap.size W0 w2) → GiveIt F w w2 S v cs l order xs i k pages N w3 → CGave F w W S cs i k pages (caGive v M l order xs) (.returned (.int .i64 0)) w3) := hidb (fun w2 w3 hb ⟨S', u, c', l', k1, k2, k3, _⟩ => by
      have hbw := HBW.out.trans (hb.out.mono HBW.out.size)
      rw [List.take_of_length_le (by omega)] at k3
      unfold caGive
      rw [if_neg hbad, if_neg hcl, k3]
      exact ⟨rfl, S', u, c', k1, rfl, (SideP.below hbw).trans k2⟩)
    have hget : ∀ x : CL, (cs.set i x)[i]? = some x := fun x => List.getElem?_set_self (List.getElem?_eq_some_iff.1 HI.out).1
    have HGET := hidb hget
    have HLOW : Hid (¬ S W.heap.size ∧ ¬ S (W.heap.size + 1)) := hidb ⟨fun h => by have := HS.out.lt _ h; omega, fun h => by have := HS.out.lt _ h; omega⟩
    clear hcl hbad hbad2 hcl2 hget hb0 hbc t4 t6
    go_wp2_with (first
      | (go_at_call 103; (with_reducible refine C1.mono ?_); rintro e w1 ⟨rfl, hb1⟩; have c2 := C2.out w1 hb1)
      | (go_at_call 103; (with_reducible refine c2.mono ?_); rintro e w2 ⟨rfl, HB2⟩))
    have HI0 := hidb (HIV.out w2 HB2)
    obtain ⟨t4, t6⟩ := CELLS.out w2 HB2.out
    have HT := hidb (And.intro t4 t6)
    clear C1 C2 c2 HIV CELLS t4 t6 hb1
    go_loopw [12, 32] (fun _ v32 wr => ∃ j : Nat, j ≤ N ∧ v32 = .int .i64 j ∧ Hid (GiveIt F w w2 S v cs l order xs i k pages j wr)) (fun _ v32 _ => (N - intOf v32).toNat)
    case atStart => exact ⟨0, Nat.zero_le _, rfl, HI0⟩
    case round =>
      obtain ⟨j, hj, rfl, HG⟩ := hrel
      by_cases hlt : j < N
      · obtain ⟨S', u, c', l', g1, g2, g3, g4⟩ := HG.out
        have hslw : Sl wr wr.heap.size AI N (xs.map iv) := (g2.sl ((HSL.out.below (HBW.out.trans (HB2.out.mono HBW.out.size))).more (Nat.le_trans HBW.out.size HB2.out.size)) (HAA.out (by omega)))
        obtain ⟨ab, aoff, x, rfl, hxj, hcx⟩ := hslw.int_ hlt
        obtain ⟨o1, o2⟩ := g4 j x (Nat.le_refl _) hxj
        obtain ⟨hh, rfl, y0, y1, _, h655⟩ := g1.at_ (HGET.out (c', l'))
        have hz2 : W.heap.size + 1 < w2.heap.size := lt_of_cell HT.out.2
        have HTX : Hid (∀ S3 X, SideP S w2 S3 X → X.cell? ⟨W.heap.size, 0, none⟩ = some (.pointer (some ⟨F.q, 0, none⟩)) ∧ X.cell? ⟨W.heap.size + 1, 0, none⟩ = some (.int .i64 order)) := hidb (fun S3 X h => ⟨(h.1.cell (a := ⟨W.heap.size, 0, none⟩) (by show W.heap.size < _; omega) HLOW.out.1).trans HT.out.1, (h.1.cell (a := ⟨W.heap.size + 1, 0, none⟩) hz2 HLOW.out.2).trans HT.out.2⟩)
        obtain ⟨t4, t6⟩ := HTX.out _ _ g2
        obtain ⟨tt, htt⟩ : ∃ tt : Nat, l'.length * pSize (order : Int) = tt := ⟨_, rfl⟩
        have cwd : Calls Tryz.prog 106 #[.agg #[.int .i64 hh, .int .i64 (l'.length : Int)], .int .i64 (order : Int)] wr.drew fun e w' => e = .returned (.int .i64 (tt : Int)) ∧ Hid (Below wr.heap.size wr w') := by
          have := cc_words hh (l'.length : Int) (order : Int) wr.drew ⟨by omega, by omega⟩ ⟨by omega, by omega⟩
          rw [← Int.natCast_mul, htt] at this
          exact this.mono fun e w' ⟨a1, a2⟩ => ⟨a1, hidb ⟨a2.os, a2.tape, a2.output, a2.size, a2.block⟩⟩
        have hj0 : (0 : Int) ≤ (j : Int) := by omega
        have hj1 : (j : Int) < (N : Int) := by omega
        have HSTEP : Hid (∀ S3 u3 c3 l3 w3, CaSt F w w3 S3 u3 (cs.set i (c3, l3)) k pages → SideP S w2 S3 w3 → (caPut order (u.plain, l') x).1 = u3.plain → (caPut order (u.plain, l') x).2 = x :: l3 → (∀ m y, j ≤ m → xs[m]? = some y → OutQ u3.plain.l y order ∧ ∀ d ∈ cs.set i (c3, l3), y ∉ d.2) → Calls Tryz.prog 108 #[.pointer (some ⟨F.q, 0, none⟩), .pointer (some ⟨F.rb, 2 * i, none⟩), .int .i64 x] w3 fun e w4 => e = .returned (.int .i64 0) ∧ Hid (GiveIt F w w2 S v cs l order xs i k pages (j + 1) w4)) := hidb (fun S3 u3 c3 l3 w3 a1 a2 a3 a4 a5 => by
          obtain ⟨b1, b2⟩ := a5 j x (Nat.le_refl _) hxj
          refine (c_push a1 (HGET.out (c3, l3)) (x := x) (by rw [him]; exact b1) b2).mono ?_
          rintro e w4 ⟨rfl, ws', c4, d1, d2⟩
          rw [List.set_set] at d1
          refine ⟨rfl, hidb ⟨S3, _, c4, x :: l3, d1, a2.trans d2, ?_, fun m y hm hy => ?_⟩⟩
          · rw [List.take_add_one, hxj, Option.toList_some, List.foldl_append, g3]
            show caPut order (u.plain, l') x = (u3.plain, x :: l3)
            rw [← a3, ← a4]
          · obtain ⟨e1, e2⟩ := a5 m y (by omega) hy
            refine ⟨e1, fun dd hdd hyd => ?_⟩
            obtain ⟨q, hq⟩ := List.getElem?_of_mem hdd
            by_cases eq : i = q
            · subst eq
              rw [List.getElem?_set_self (List.getElem?_eq_some_iff.1 HI.out).1] at hq
              obtain rfl := Option.some.inj hq
              rcases List.mem_cons.1 hyd with rfl | h5
              · exact HND.out j m _ (by omega) hxj hy
              · exact e2 (c3, l3) (List.mem_of_getElem? (HGET.out (c3, l3))) h5
            · rw [List.getElem?_set_ne eq] at hq
              exact e2 dd (List.mem_of_getElem? (i := q) (by rw [List.getElem?_set_ne eq]; exact hq)) hyd)
        by_cases h256 : 256 ≤ tt
        · have h256i : (256 : Int) ≤ (tt : Int) := by omega
          have CE : Hid (∀ w1, Hid (Below wr.heap.size wr w1) → (w1.cell? ⟨W.heap.size, 0, none⟩ = some (.pointer (some ⟨F.q, 0, none⟩)) ∧ w1.cell? ⟨W.heap.size + 1, 0, none⟩ = some (.int .i64 order)) ∧ Calls Tryz.prog 107 #[.pointer (some ⟨F.q, 0, none⟩), .pointer (some ⟨F.rb, 2 * i, none⟩), .int .i64 order, .int .i64 128] w1 fun e w3 => e = .returned (.tuple #[]) ∧ w3.cell? ⟨W.heap.size, 0, none⟩ = some (.pointer (some ⟨F.q, 0, none⟩)) ∧ Calls Tryz.prog 108 #[.pointer (some ⟨F.q, 0, none⟩), .pointer (some ⟨F.rb, 2 * i, none⟩), .int .i64 x] w3 fun e w4 => e = .returned (.int .i64 0) ∧ Hid (GiveIt F w w2 S v cs l order xs i k pages (j + 1) w4)) := hidb (fun w1 hb1 => by
            have s1 := g1.below hb1.out
            refine ⟨HTX.out _ _ (g2.trans (SideP.below hb1.out)), (c_empty s1 (HGET.out _) order h2 him 128 (by omega)).mono ?_⟩
            rintro e w3 ⟨rfl, S3, u3, c3, a1, a2, a3, a4, a5⟩
            rw [List.set_set] at a1
            have hsd := (g2.trans (SideP.below hb1.out)).trans a3
            refine ⟨rfl, (HTX.out _ _ hsd).1, HSTEP.out S3 u3 c3 _ w3 a1 hsd ?_ ?_ fun m y hm hy => ?_⟩
            · unfold caPut; rw [if_pos (by show 256 ≤ l'.length * pSize (order : Int); omega)]; exact a2.symm
            · unfold caPut; rw [if_pos (by show 256 ≤ l'.length * pSize (order : Int); omega)]
            · obtain ⟨e1, e2⟩ := g4 m y hm hy
              refine ⟨by rw [a2]; exact a4 y _ e1 e2, fun dd hdd hyd => ?_⟩
              obtain ⟨q, hq⟩ := List.getElem?_of_mem hdd
              by_cases eq : i = q
              · subst eq
                rw [List.getElem?_set_self (List.getElem?_eq_some_iff.1 HI.out).1] at hq
                obtain rfl := Option.some.inj hq
                exact e2 _ (List.mem_of_getElem? (HGET.out _)) (a5 y hyd)
              · rw [List.getElem?_set_ne eq] at hq
                exact e2 dd (List.mem_of_getElem? (i := q) (by rw [List.getElem?_set_ne eq]; exact hq)) hyd)
          clear g1 g2 g3 g4 o1 o2 hslw hxj h655 htt HSTEP HTX
          --@4
          go_wp2
          go_region_law (first | (go_simp; go_at_call 106; (with_reducible refine cwd.mono ?_); rintro e w1 ⟨rfl, HB1⟩; obtain ⟨⟨t4, t6⟩, ce⟩ := CE.out w1 HB1))
          all_goals go_wp2_with (first
            | (go_at_call 107; (with_reducible refine ce.mono ?_); rintro e w3 ⟨rfl, t4, cp⟩)
            | (go_at_call 108; (with_reducible refine cp.mono ?_); rintro e w4 ⟨rfl, HG4⟩))
          all_goals go_roundw
          all_goals first
            | exact ⟨j + 1, by omega, by go_num, HG4⟩
            | (simp [intOf]; omega)
        · have h256i : ¬ (256 : Int) ≤ (tt : Int) := by omega
          have CE : Hid (∀ w1, Hid (Below wr.heap.size wr w1) → (w1.cell? ⟨W.heap.size, 0, none⟩ = some (.pointer (some ⟨F.q, 0, none⟩)) ∧ w1.cell? ⟨W.heap.size + 1, 0, none⟩ = some (.int .i64 order)) ∧ Calls Tryz.prog 108 #[.pointer (some ⟨F.q, 0, none⟩), .pointer (some ⟨F.rb, 2 * i, none⟩), .int .i64 x] w1 fun e w4 => e = .returned (.int .i64 0) ∧ Hid (GiveIt F w w2 S v cs l order xs i k pages (j + 1) w4)) := hidb (fun w1 hb1 => by
            have hsd := g2.trans (SideP.below hb1.out)
            refine ⟨HTX.out _ _ hsd, HSTEP.out S' u _ l' w1 (g1.below hb1.out) hsd ?_ ?_ g4⟩
            · unfold caPut; rw [if_neg (by show ¬ 256 ≤ l'.length * pSize (order : Int); omega)]
            · unfold caPut; rw [if_neg (by show ¬ 256 ≤ l'.length * pSize (order : Int); omega)])
          clear g1 g2 g3 g4 o1 o2 hslw hxj h655 htt HSTEP HTX
          --@5
          go_wp2
          go_region_law (first | (go_simp; go_at_call 106; (with_reducible refine cwd.mono ?_); rintro e w1 ⟨rfl, HB1⟩; obtain ⟨⟨t4, t6⟩, cp⟩ := CE.out w1 HB1))
          all_goals go_wp2_with (first
            | (go_at_call 108; (with_reducible refine cp.mono ?_); rintro e w4 ⟨rfl, HG4⟩))
          all_goals go_roundw
          all_goals first
            | exact ⟨j + 1, by omega, by go_num, HG4⟩
            | (simp [intOf]; omega)
      · obtain rfl : j = N := by omega
        have P := hidb (HEND.out w2 wr HB2 HG.out)
        --@6
        go_wp2
        go_ret
        exact P.out
end

end Go.Proofs.YtlcdgmjinhbncaaGreat
