/- The walk of layer 6's statement on the order in which pages become free. -/
import Derived.Test.YtbihliaeidpfaaaRunsCuts
namespace Go.Proofs.Ytbihliaeidpfaaa
open Go.RowKit
set_option linter.unusedVariables false

/-- New of runs that came in: free runs, or nil. -/
def MayFr (w : World) (S : Nat → Prop) (oa : Option Addr) (F : List Bool) (no : Int) : Prop := no = 0 → ∃ p, oa = some ⟨p, 0, none⟩ ∧ Fr w S p F
theorem new_any {w0 : World} {A : Option Addr} {m d : Nat} {rs : List (Int × Int)} (hs : Rn w0 w0.heap.size A m rs) (hm : m ≤ 60000) (hr : ∀ r ∈ rs, in64 r.1 ∧ in64 r.2) {F : List Bool} {no : Int} (hP : fPut (List.replicate 1024 false) rs true = (F, no)) :
    Calls Try.prog 11 #[.slice A m d] w0 fun e w' => ∃ oa S, e = .returned (.tuple #[.pointer oa, .int .i64 no]) ∧ MayFr w' S oa F no ∧ Below w0.heap.size w0 w' := by
  refine (code_rnew A m d rs w0 hs hm hr F no hP).mono ?_
  rintro e w' ⟨hb, ⟨h0, p, S, rfl, h1, h2⟩ | ⟨h, rfl⟩⟩
  · subst h0
    exact ⟨some ⟨p, 0, none⟩, S, rfl, fun _ => ⟨p, rfl, h1⟩, hb⟩
  · exact ⟨none, fun _ => False, rfl, fun h0 => absurd h0 h, hb⟩

set_option maxRecDepth 100000 in
set_option maxHeartbeats 4000000 in
theorem runsTurns_any (A : Option Addr) (m d : Nat) (rs : List (Int × Int)) (w : World) (hm : m ≤ maxLen) (hs : Rn w w.heap.size A m rs) (hr : ∀ r ∈ rs, in64 r.1 ∧ in64 r.2) :
    Calls Try.prog 5 #[.slice A m d] w fun e w' => e = .returned (.bool true) ∧ Below w.heap.size w w' := by
  obtain ⟨i0, hi, hz0, hz1, hz2⟩ := info_parts info_run
  have cw := fun W => awake6 W
  unfold maxLen at hm
  by_cases g1 : 20 < m
  · clear hs hr
    go_enter Try.func5, Try.ntmps5
    go_wp2_with (first | (go_at_call 8; (with_reducible refine (cw _).mono ?_); rintro e w1 ⟨rfl, hb1⟩))
    go_ret
    exact ⟨rfl, hb1⟩
  have hl : rs.length = m := hs.1
  obtain ⟨P, hP⟩ : ∃ P, fPut (List.replicate 1024 false) rs true = P := ⟨_, rfl⟩
  obtain ⟨F, no⟩ := P
  have cn := new_any (d := d) hs (by omega) hr hP
  have cb := fun W => new_yes (w0 := W) (A := none) (m := 0) (d := 0) (rs := []) Rn.nil_ (by omega) (fun r hr => by cases hr) (F := List.replicate 1024 false) rfl
  have HS := hidb hs
  have HR := hidb hr
  have HL := hidb hl
  have HP := hidb hP
  clear hs hr hl hP
  go_enter Try.func5, Try.ntmps5
  go_wp2_with (first | (go_at_call 11; (with_reducible refine cn.mono ?_); rintro e w1 ⟨oa, Sa, rfl, hA, hb1⟩))
  have HA1 := hidb hA
  have HB1 := hidb hb1
  clear hA hb1 cn
  go_loopw [5, 6] (fun v k wr => ∃ (t : Nat) (i : Int) (A2 : Option Addr) (c2 : Nat), t ≤ m ∧ k = .int .i64 i ∧ i = (t : Int) - 1 ∧ v = .slice A2 (m - t) c2 ∧ Hid (wr.ownsRow w1.heap.size 34 2 (.slice A2 (m - t) c2) (m - t) (rcells (rs.drop t).reverse)) ∧ Hid (Below w1.heap.size w1 wr)) (fun _ k _ => (intOf k + 1).toNat)
  case atStart =>
    refine ⟨m, _, some ⟨w1.heap.size, 0, none⟩, 0, Nat.le_refl _, rfl, rfl, by rw [Nat.sub_self], hidb ?_, hidb ((Below.refl _ _).alloc (Nat.le_refl _) _)⟩
    rw [Nat.sub_self, List.drop_of_length_le (by rw [HL.out]; omega)]
    exact own_empty w1 w1.heap.size _ 2 (Nat.le_refl _)
  case round =>
    obtain ⟨t, i, A2, c2, ht, rfl, hit, rfl, HO, HB⟩ := hrel
    by_cases ht0 : t = 0
    · subst ht0
      obtain rfl : i = -1 := by omega
      clear hit
      rw [Nat.sub_zero] at HO ⊢
      rw [List.drop_zero] at HO
      go_wp2_with (first | (go_at_call 11; (with_reducible refine (cb _).mono ?_); rintro e w2 ⟨pb, Sb, rfl, hFb, hlowb, hb2⟩))
      obtain ⟨bk, hbk⟩ : ∃ bk, rs.reverse = bk := ⟨_, rfl⟩
      have hbl : bk.length = m := by rw [← hbk, List.length_reverse, HL.out]
      have HPM : Hid (bk.Perm rs) := hidb (by rw [← hbk]; exact List.reverse_perm rs)
      have HBL := hidb hbl
      rw [hbk] at HO
      obtain ⟨wo, rfl⟩ : ∃ wo : World, wo = wr := ⟨_, rfl⟩
      have HRN : Hid (Rn wo wo.heap.size A2 m bk) := hidb (Rn.of_own HO.out hbl)
      have HRB : Hid (∀ r ∈ bk, in64 r.1 ∧ in64 r.2) := hidb (fun r hr => by rw [← hbk] at hr; exact HR.out r (List.mem_reverse.1 hr))
      have HA2 : Hid (MayFr wo Sa oa F no) := hidb (fun h0 => by
        obtain ⟨p, e, hF⟩ := HA1.out h0
        exact ⟨p, e, hF.below HB.out⟩)
      have HBW : Hid (Below w.heap.size w wo) := hidb (HB1.out.trans (HB.out.mono HB1.out.size))
      have HRF : Hid (Fr w2 Sb pb (List.replicate 1024 false)) := hidb hFb
      have HB2 := hidb hb2
      have HLW := hidb hlowb
      clear hbk hbl HO HB hb2 HA1 hFb hlowb
      go_loopw [8, 9] (fun v k wr => ∃ (j : Nat) (no2 : Int) (fj : List Bool) (S2 : Nat → Prop), j ≤ m ∧ k = .int .i64 (j : Int) ∧ v = .int .i64 no2 ∧ Hid (Below wo.heap.size wo wr) ∧ Hid (∀ b, S2 b → wo.heap.size ≤ b) ∧ Hid (no2 = 0 → Only fj (bk.take j) ∧ Fr wr S2 pb fj) ∧ Hid (no2 ≠ 0 → ¬ ((∀ r ∈ rs, fMay r = true) ∧ Disj rs))) (fun _ k _ => (m - intOf k).toNat)
      case atStart => exact ⟨0, 0, _, Sb, by omega, rfl, rfl, HB2, HLW, hidb (fun _ => ⟨Only.start, HRF.out⟩), hidb (fun h => absurd rfl h)⟩
      case round =>
        obtain ⟨j, no2, fj, S2, hj, rfl, rfl, HB3, HL3, HY, HN⟩ := hrel
        by_cases hgo : j < m ∧ no2 = 0
        · obtain ⟨hlt, rfl⟩ := hgo
          obtain ⟨hO, hF⟩ := HY.out rfl
          obtain ⟨b, off, s, l, rfl, _, hx, hc1, hc2⟩ := (HRN.out.below HB3.out).at_ hlt
          have hin := HRB.out (s, l) (List.mem_of_getElem? hx)
          have hal : Below wr.heap.size wr (wr.alloc (.cells #[.int .i64 s, .int .i64 l] 34)) := (Below.refl _ _).alloc (Nat.le_refl _) _
          have ca := code_radd (hF.below hal) (some ⟨wr.heap.size, 0, none⟩) 1 1 [(s, l)] ((Rn.one6 s l _).more (by simp)) (by omega) (fun r hr => by obtain rfl := List.mem_singleton.1 hr; exact hin)
          obtain ⟨Q, hQ⟩ : ∃ Q, fPut fj [(s, l)] true = Q := ⟨_, rfl⟩
          obtain ⟨g, no3⟩ := Q
          rw [hQ] at ca
          have hsz := HB3.out.size
          have HTK : Hid (bk.take (j + 1) = bk.take j ++ [(s, l)]) := hidb (by rw [List.take_add_one, hx]; rfl)
          have HEND : Hid (∀ w', DidFr (wr.alloc (.cells #[.int .i64 s, .int .i64 l] 34)) S2 pb g no3 (.returned (.int .i64 no3)) w' → ∃ S3 : Nat → Prop, Hid (Below wo.heap.size wo w') ∧ Hid (∀ b, S3 b → wo.heap.size ≤ b) ∧ Hid (no3 = 0 → Only g (bk.take (j + 1)) ∧ Fr w' S3 pb g) ∧ Hid (no3 ≠ 0 → ¬ ((∀ r ∈ rs, fMay r = true) ∧ Disj rs))) := hidb (fun w' ⟨_, k1, k2⟩ => by
            have hb4 := HB3.out.alloc hsz (.cells #[.int .i64 s, .int .i64 l] 34)
            refine ⟨more S2 (wr.alloc (.cells #[.int .i64 s, .int .i64 l] 34)) w', hidb (hb4.trans (k2.below hb4.size HL3.out)), hidb (more_low hb4.size HL3.out), hidb (fun h => ?_), hidb (fun h c => ?_)⟩
            · subst h
              rw [HTK.out]
              exact ⟨hO.put hQ, k1⟩
            · have he := hO.err (m := [(s, l)]) (by rw [hQ]; exact h)
              rw [← HTK.out] at he
              have c2 : (∀ r ∈ bk, fMay r = true) ∧ Disj bk := ⟨fun r hr => c.1 r (HPM.out.mem_iff.1 hr), (disj_perm HPM.out).2 c.2⟩
              exact bad_take (j + 1) he c2)
          have hj0 : (0 : Int) ≤ (j : Int) := by omega
          have hj1 : (j : Int) < (m : Int) := by omega
          clear hx hO hF hQ hal hin
          go_wp2_with (first | (go_at_call 12; (with_reducible refine ca.mono ?_); rintro e w5 ⟨rfl, k1, k2⟩))
          obtain ⟨S3, r1, r2, r3, r4⟩ := HEND.out w5 ⟨rfl, k1, k2⟩
          clear k1 k2
          go_roundw
          case rel => exact ⟨j + 1, no3, g, S3, by omega, by go_num, rfl, r1, r2, r3, r4⟩
          case measure => simp [intOf]; omega
        · have o1 : no = 0 → Only F rs := fun h => by subst h; exact Only.start.put HP.out
          have o2 : no ≠ 0 → ¬ ((∀ r ∈ rs, fMay r = true) ∧ Disj rs) := fun h => Only.start.err (m := rs) (by rw [HP.out]; exact h)
          have o3 : no2 = 0 → j = m ∧ Only fj bk := fun h => by
            have hjm : j = m := Classical.byContradiction fun hc => hgo ⟨by omega, h⟩
            refine ⟨hjm, ?_⟩
            have := (HY.out h).1
            rwa [hjm, List.take_of_length_le (by rw [HBL.out]; exact Nat.le_refl _)] at this
          have hall : Below w.heap.size w wr := HBW.out.trans (HB3.out.mono HBW.out.size)
          have hszw := HB3.out.size
          have hj0 : (0 : Int) ≤ (j : Int) := by omega
          by_cases hno : no = 0
          · have hF0 := o1 hno
            have hgood := only_bad hF0 (List.Perm.refl _)
            have hno2 : no2 = 0 := Classical.byContradiction fun hc => HN.out hc hgood
            obtain ⟨hjm, hj2⟩ := o3 hno2
            obtain rfl : F = fj := hF0.same hj2 HPM.out.symm
            subst hno hno2 hjm
            obtain ⟨p, rfl, hFa⟩ := HA2.out rfl
            replace hFa := hFa.below HB3.out
            have hFb := (HY.out rfl).2
            have hlen2 := fList_len F
            have hlen4 := hF0.len
            have hlen3 : (fList F).length ≤ 65536 := by omega
            clear o1 o2 o3 hF0 hgood hj2 hgo hlen2 hlen4 hszw HS HR HP
            go_wp2_with (first
              | (go_at_call 18; (with_reducible refine (code_rlist hFa).mono ?_); rintro e w5 ⟨A5, c5, rfl, ho5, hb5⟩; have rn5 := Rn.of_own ho5 rfl; clear hFa; replace hFb := hFb.below hb5; replace hall := hall.trans (hb5.mono hall.size))
              | (go_at_call 18; (with_reducible refine (code_rlist hFb).mono ?_); rintro e w6 ⟨A6, c6, rfl, ho6, hb6⟩; have rn6 := Rn.of_own ho6 rfl; replace rn5 := rn5.below hb6; replace hall := hall.trans (hb6.mono hall.size))
              | (go_at_call 17; (with_reducible refine (same_off rn5 rn6 hlen3 hlen3).mono ?_); rintro e w7 ⟨rfl, hb7⟩; replace hall := hall.trans (hb7.mono hall.size))
              | (go_at_call 8; (with_reducible refine (cw _).mono ?_); rintro e w8 ⟨rfl, hb8⟩))
            go_ret
            exact ⟨rfl, hall.trans (hb8.mono hall.size)⟩
          · have hbad := o2 hno
            have hno2 : no2 ≠ 0 := fun hc => hbad (only_bad (o3 hc).2 HPM.out)
            have hne1 : (no != 0) = true := by simpa using hno
            have hne2 : (no2 != 0) = true := by simpa using hno2
            have hne3 : (no2 == 0) = false := by simpa using hno2
            clear o1 o2 o3 hbad hszw HS HR HP HN HY HA2 hno hgo
            by_cases hjm : j = m
            · subst hjm
              go_wp2_with (first | (go_at_call 8; (with_reducible refine (cw _).mono ?_); rintro e w8 ⟨rfl, hb8⟩))
              go_ret
              exact ⟨rfl, hall.trans (hb8.mono hall.size)⟩
            · have hj1 : (j : Int) < (m : Int) := by omega
              go_wp2_with (first | (go_at_call 8; (with_reducible refine (cw _).mono ?_); rintro e w8 ⟨rfl, hb8⟩))
              go_ret
              exact ⟨rfl, hall.trans (hb8.mono hall.size)⟩
    · obtain ⟨u, rfl⟩ : ∃ u, t = u + 1 := ⟨t - 1, by omega⟩
      obtain rfl : i = (u : Int) := by omega
      have hbw := HB1.out.trans (HB.out.mono HB1.out.size)
      obtain ⟨b, off, s, l, rfl, _, hx, hc1, hc2⟩ := (HS.out.below hbw).at_ (k := u) (by omega)
      have HN : Hid (rcells (rs.drop u).reverse = rcells (rs.drop (u + 1)).reverse ++ [iv s, iv l]) := hidb (by
        have hlt : u < rs.length := (List.getElem?_eq_some_iff.1 hx).1
        have he : rs[u] = (s, l) := (List.getElem?_eq_some_iff.1 hx).2
        rw [List.drop_eq_getElem_cons hlt, he, List.reverse_cons, rcells_append]; rfl)
      have hui0 : (0 : Int) ≤ (u : Int) := by omega
      have hui1 : (u : Int) < (m : Int) := by omega
      have hsz := HB.out.size
      have hmu : m - (u + 1) + 1 = m - u := by omega
      have HMU := hidb hmu
      clear hx hit hbw hmu
      go_wp2_with (at_builtin; refine wpList_append_two wr rfl _ _ 22 rfl w1.heap.size 34 i0 (.agg #[.int .i64 0, .int .i64 0]) 16 Try.underlying22 hi hz0 hz1 hz2 rfl _ _ _ rfl (by exact HO.out) hsz (.int .i64 s) (.int .i64 l) rfl rfl _ rfl (by unfold maxLen; omega) (by omega) ?_; intro v3 w3 hown3 hb3)
      rw [HMU.out] at hown3
      have HO3 : Hid (w3.ownsRow w1.heap.size 34 2 v3 (m - u) (rcells (rs.drop u).reverse)) := hidb (by rw [HN.out]; exact hown3)
      have HB3 := hidb (HB.out.trans hb3)
      obtain ⟨A3, c3, rfl⟩ := own_form2 hown3
      clear hown3 hb3
      go_roundw
      case rel => exact ⟨u, (u : Int) - 1, A3, c3, by omega, rfl, rfl, rfl, HO3, HB3⟩
      case measure => first | (simp [intOf]; done) | (simp [intOf]; omega)

end Go.Proofs.Ytbihliaeidpfaaa
