/- What the code of layer 16 (slots) returns: All. -/
import Derived.Test.YtlniakcoikhilaaGreatDoorSltGetC
namespace Go.Proofs.YtlniakcoikhilaaGreatDoor
open Go.RowKit
set_option linter.unusedVariables false

theorem field_rn (a b : Int) (w : World) : (Instr.field 138 (.agg #[.int .i64 a, .int .i64 b]) 1).run Tryz.prog w = .ok (.int .i64 b) w := by kernel_rfl
section
variable {w : World} {lo hi : Nat} {tp : Option Addr} {l : Fns} {A : Option Addr} {m c : Nat} {L : List FrV}
set_option maxRecDepth 100000 in
set_option maxHeartbeats 4000000 in
theorem code_slall {B p g len : Nat} {xs : List Nat} (ha : Ar w B p g len xs) (ht : TbO w lo hi tp l) (hhi : hi ≤ w.heap.size) (hl : ∀ x ∈ l, 0 ≤ x.1 ∧ x.1 ≤ 1000) (hx : Wd xs) (hs : FrRow w w.heap.size A m L) (hm : m ≤ 1000000) (hcap : m ≤ c) :
    Calls Tryz.prog 60 #[.pointer (some ⟨p, 0, none⟩), .pointer tp, .slice A m c] w (ResV w (slAll xs l L)) := by
  obtain ⟨i0, hi2, hz0, hz1, hz2⟩ := info_parts info_val
  obtain ⟨i1, hj, hy0, hy1, hy2⟩ := info_parts info_vals
  have HL := hidb hl
  have HLr := hidb hs
  have KS : Hid (∀ W x q, Below w.heap.size w W → slRun l x = q → Calls Tryz.prog 85 #[.pointer tp, .agg #[.int .i64 x.at_, .int .i64 x.fn, .int .i64 x.link]] W fun e w' => e = .returned (.agg #[.int .i64 q.1, .int .i64 q.2]) ∧ Below W.heap.size W w') := hidb (fun W x q hb hq => code_place (ht.below (hb.mono hhi)) (Nat.le_trans hhi hb.size) hl x q hq)
  have KG : Hid (∀ W (d i : Int) v no, Below w.heap.size w W → in64 i → slGet xs l L d i = (v, no) → Calls Tryz.prog 86 #[.pointer (some ⟨p, 0, none⟩), .pointer tp, .slice A m c, .int .i64 d, .int .i64 i] W fun e w' => e = .returned (.tuple #[.agg #[.int .u8 v.kind, .int .u64 v.bits, .int .i64 v.depth, .int .i64 v.slot], .int .i64 no]) ∧ Below W.heap.size W w') := hidb (fun W d i v no hb hi hv => code_slget (ha.below hb (Nat.le_refl _)) (ht.below (hb.mono hhi)) (Nat.le_trans hhi hb.size) hl hx (hs.step hb) hm hcap d i hi v no hv)
  have PE : Hid (∀ W e, Below w.heap.size w W → slAll xs l L = ([], e) → ResV w (slAll xs l L) (.returned (.tuple #[.slice none 0 0, .int .i64 e])) W) := hidb (fun W e hb h => by rw [h]; exact ⟨_, _, [], rfl, ⟨Sl.nil_, fun z hz => by cases hz⟩, rfl, hb⟩)
  have PG : Hid (∀ W C k (zs : List VlS) j, zs.length = j → Below w.heap.size w W → W.ownsRow w.heap.size 74 1 (.slice C j k) j (zs.map vsC) → (∀ z ∈ zs, OwnZ w.heap.size W z) → slAll xs l L = (vvals zs, 0) → ResV w (slAll xs l L) (.returned (.tuple #[.slice C j k, .int .i64 0])) W) := hidb (fun W C k zs j hj hb ho hz h => by
    subst hj
    rw [h]
    have e : (vvals zs).length = zs.length := by unfold vvals; simp
    exact ⟨C, k, zs, by rw [e], ⟨by rw [e]; exact Sl.of_own ho, fun z hz' => (hz z hz').row⟩, rfl, hb⟩)
  clear hs hx ht hl ha
  go_enter Tryz.func60, Tryz.ntmps60
  go_wp2
  go_loopw [17, 8, 9, 10, 11, 12, 13, 14] (fun k v8 _ _ _ _ _ _ wr => ∃ (j : Nat) (zs : List VlS) (C : Option Addr) (kc : Nat), j ≤ m ∧ Hid (zs.length = j) ∧ k = .int .i64 j ∧ v8 = .slice C j kc ∧ Hid (wr.ownsRow w.heap.size 74 1 (.slice C j kc) j (zs.map vsC)) ∧ Hid (∀ z ∈ zs, OwnZ w.heap.size wr z) ∧ Hid (slAll xs l L = slAllAux xs l L j (L.drop j) (vvals zs)) ∧ Hid (Below w.heap.size w wr)) (fun k _ _ _ _ _ _ _ _ => (m - intOf k).toNat)
  case atStart => exact ⟨0, [], _, _, by omega, hidb rfl, rfl, rfl, hidb (World.ownsRow_nil _ _ _ _), hidb (fun z hz => by cases hz), hidb rfl, hidb (Below.refl _ _)⟩
  case round =>
    obtain ⟨j, zs, C, kc, hjm, hzl, rfl, rfl, HO, HZ, HF, HB⟩ := hrel
    by_cases hlt : j < m
    · obtain ⟨b, off, x, rfl, hbl, hxx, hc0, hc1, hc2⟩ := HLr.out.at_ hlt
      have d0 := (HB.out.cell (p := ⟨b, off + j * 3, none⟩) hbl).trans hc0
      have d1 := (HB.out.cell (p := ⟨b, off + j * 3 + 1, none⟩) hbl).trans hc1
      have d2 := (HB.out.cell (p := ⟨b, off + j * 3 + 2, none⟩) hbl).trans hc2
      have hz := slSize_range l HL.out x
      obtain ⟨sz, hsz⟩ : ∃ sz : Nat, slSize l x = (sz : Int) := ⟨(slSize l x).toNat, by omega⟩
      obtain ⟨⟨q1, q2⟩, hq⟩ : ∃ q, slRun l x = q := ⟨_, rfl⟩
      have hq2 : q2 = (sz : Int) := by
        unfold slRun at hq
        split at hq <;> (injection hq with hq1 hq2; omega)
      subst hq2
      have HSTEP : Hid (slAllAux xs l L j (L.drop j) (vvals zs) = if slErr xs l L j sz = 0 then slAllAux xs l L (j + 1) (L.drop (j + 1)) (vvals zs ++ [slRow xs l L j sz]) else ([], slErr xs l L j sz)) := hidb (by
        obtain ⟨hj2, rfl⟩ := List.getElem?_eq_some_iff.1 hxx
        rw [List.drop_eq_getElem_cons hj2]
        show (if slErr xs l L j (slSize l L[j]).toNat = 0 then _ else _) = _
        rw [hsz, Int.toNat_natCast])
      have hsz9 : sz ≤ 1000 := by omega
      have HBA : Hid (Below w.heap.size w (wr.alloc (.cells #[.int .i64 x.at_, .int .i64 x.fn, .int .i64 x.link] 71))) := hidb (belF_al HB.out _)
      have ks := KS.out _ x _ HBA.out hq
      have kf := fun W => field_rn q1 (sz : Int) W
      have HOA := hidb (own_same HO.out fun q hq => (belF_al (Below.refl wr.heap.size wr) (.cells #[.int .i64 x.at_, .int .i64 x.fn, .int .i64 x.link] 71)).block q (HO.out.lt q hq).2)
      have HZA : Hid (∀ z ∈ zs, OwnZ w.heap.size (wr.alloc (.cells #[.int .i64 x.at_, .int .i64 x.fn, .int .i64 x.link] 71)) z) := hidb (fun z hz => (HZ.out z hz).below (belF_al (Below.refl _ _) _))
      obtain ⟨xa, xf, xl⟩ := x
      simp only at *
      have hi0 : (0 : Int) ≤ (j : Int) := by omega
      have hi1 : (j : Int) < (m : Int) := by omega
      clear hxx hc0 hc1 hc2 hsz hz hq
      go_wp2_with (first | (go_at_call 85; (with_reducible refine ks.mono ?_); rintro e wo ⟨rfl, hbo⟩; have HBO := hidb (belF_tr HBA.out hbo); have HOO := hidb (own_same HOA.out fun q hq => hbo.block q (HOA.out.lt q hq).2); have HZO : Hid (∀ z ∈ zs, OwnZ w.heap.size wo z) := hidb (fun z hz => (HZA.out z hz).below hbo); clear hbo))
      clear d0 d1 d2 HOA HZA HO HZ HBA ks HB
      go_loopw [26, 11, 12, 13, 14] (fun v26 v11 _ _ _ wq => ∃ (i : Nat) (D : Option Addr) (kd : Nat), i ≤ sz ∧ v26 = .int .i64 i ∧ v11 = .slice D i kd ∧ Hid (wq.ownsRow wo.heap.size 77 4 (.slice D i kd) i (cellsAll vlcells (slRow xs l L j i))) ∧ Hid (Below wo.heap.size wo wq) ∧ Hid (slErr xs l L j i = 0)) (fun v26 _ _ _ _ _ => (sz - intOf v26).toNat)
      case atStart => exact ⟨0, _, _, by omega, rfl, rfl, hidb (World.ownsRow_nil _ _ _ _), hidb (Below.refl _ _), hidb rfl⟩
      case round =>
        obtain ⟨i, D, kd, hil, rfl, rfl, HOI, HBI, HER⟩ := hrel
        have HBQ := hidb (belF_tr HBO.out HBI.out)
        by_cases hlti : i < sz
        · have hlti' : (i : Int) < (sz : Int) := by omega
          obtain ⟨⟨vk, vb, vd, vi⟩, hv⟩ : ∃ v, (slGet xs l L j i).1 = v := ⟨_, rfl⟩
          obtain ⟨no, hno⟩ : ∃ no, (slGet xs l L j i).2 = no := ⟨_, rfl⟩
          have kg := KG.out _ j i ⟨vk, vb, vd, vi⟩ no HBQ.out (by unfold in64; omega) (Prod.ext hv hno)
          simp only at kg
          by_cases h0 : no = 0
          · subst h0
            have HER2 := hidb (slErr_succ HER.out hno)
            have HROW : Hid (cellsAll vlcells (slRow xs l L j (i + 1)) = cellsAll vlcells (slRow xs l L j i) ++ [.int .u8 (vk : Int), .int .u64 (vb : Int), .int .i64 vd, .int .i64 vi]) := hidb (by rw [slRow_succ, cellsAll_append, hv, cellsAll_one]; rfl)
            clear hv hno
            --@8
            go_wp2_with (first
              | (go_at_call 86; (with_reducible refine kg.mono ?_); rintro e w2 ⟨rfl, hb2⟩; have HBI2 := hidb (belF_al (belF_tr HBI.out hb2) (.cells #[.int .u8 (vk : Int), .int .u64 (vb : Int), .int .i64 vd, .int .i64 vi] 77)); have HSZ : Hid (w2.heap.size + 1 = (w2.alloc (.cells #[.int .u8 (vk : Int), .int .u64 (vb : Int), .int .i64 vd, .int .i64 vi] 77)).heap.size) := hidb (by simp); have HOI2 := hidb (own_same HOI.out fun q hq => (belF_al hb2 (.cells #[.int .u8 (vk : Int), .int .u64 (vb : Int), .int .i64 vd, .int .i64 vi] 77)).block q (HOI.out.lt q hq).2); clear hb2)
              | (at_builtin; go_loud (refine wpList_append_struct _ rfl (.tmp 41) (.tmp 43) 74 rfl wo.heap.size 77 i0 (.agg #[.int .u8 0, .int .u64 0, .int .i64 0, .int .i64 0]) 4 32 Tryz.underlying74 hi2 hz0 hz1 hz2 rfl (by decide) (.slice D i kd) i _ rfl HOI2.out HBI2.out.size #[.int .u8 (vk : Int), .int .u64 (vb : Int), .int .i64 vd, .int .i64 vi] rfl (by simp [Value.oneCell']) _ (congrArg (fun q => Value.slice (some ⟨q, 0, none⟩) 1 1) HSZ.out) (by unfold maxLen; omega) (by omega) ?_); go_loud (intro v4 w4 hown4 hb4; have HO4 := hidb hown4; have HB4 := hidb (HBI2.out.trans hb4); clear hown4 hb4)))
            go_roundw
            case rel =>
              obtain ⟨D4, k4, rfl⟩ := own_form2 HO4.out
              exact ⟨i + 1, D4, k4, by omega, by go_num, rfl, by rw [HROW.out]; exact HO4, HB4, HER2⟩
            case measure => simp [intOf]; omega
          · have HRET : Hid (slAll xs l L = ([], no)) := hidb (by
              have e := slErr_stop h0 sz i hlti HER.out hno
              rw [HF.out, HSTEP.out, e, if_neg h0])
            have h0b : (no != 0) = true := by simpa using h0
            clear hv hno
            --@9
            go_wp2_with (first
              | (go_at_call 86; (with_reducible refine kg.mono ?_); rintro e w2 ⟨rfl, hb2⟩; have HB2 := hidb (belF_al (belF_tr HBQ.out hb2) (.cells #[.int .u8 (vk : Int), .int .u64 (vb : Int), .int .i64 vd, .int .i64 vi] 77))))
            go_ret2
            exact PE.out _ _ HB2.out HRET.out
        · obtain rfl : i = sz := by omega
          have hge : ¬ ((i : Int) < (i : Int)) := by omega
          have HNEXT : Hid (slAll xs l L = slAllAux xs l L (j + 1) (L.drop (j + 1)) (vvals (zs ++ [⟨D, i, kd, slRow xs l L j i⟩]))) := hidb (by
            rw [HF.out, HSTEP.out, if_pos HER.out]; unfold vvals; rw [List.map_append]; rfl)
          have HNZ : Hid (OwnZ wo.heap.size wr ⟨D, i, kd, slRow xs l L j i⟩) := hidb ⟨HOI.out, slRow_length _ _ _ _ _⟩
          have HZ2 : Hid (∀ z ∈ zs ++ [⟨D, i, kd, slRow xs l L j i⟩], OwnZ w.heap.size wr z) := hidb (fun z hz => by
            rcases List.mem_append.1 hz with hz | hz
            · exact (HZO.out z hz).below HBI.out
            · rw [List.mem_singleton.1 hz]; exact HNZ.out.mono HBO.out.size)
          have HO2 := hidb (own_same HOO.out fun q hq => HBI.out.block q (HOO.out.lt q hq).2)
          have HZ3 : Hid (∀ z ∈ zs ++ [⟨D, i, kd, slRow xs l L j i⟩], OwnZ w.heap.size (wr.alloc (.cells #[.slice D i kd] 74)) z) := hidb (fun z hz => (HZ2.out z hz).below (belF_al (Below.refl _ _) _))
          have HO5 := hidb (own_same HO2.out fun q hq => (belF_al (Below.refl wr.heap.size wr) (.cells #[.slice D i kd] 74)).block q (HO2.out.lt q hq).2)
          have HB5 := hidb (belF_al HBQ.out (.cells #[.slice D i kd] 74))
          --@10
          go_wp2_with (first
            | (at_builtin; go_loud (refine wpList_append_rowN _ rfl (.tmp 46) (.tmp 48) 65 rfl w.heap.size 74 i1 (.slice none 0 0) 1 24 Tryz.underlying65 hj hy0 hy1 hy2 rfl (by decide) (.slice C j kc) j (zs.map vsC) rfl HO5.out HB5.out.size (some ⟨wr.heap.size, 0, none⟩) 1 1 [.slice D i kd] rfl rfl (fun e => by cases e) (cells_new wr [.slice D i kd] 74) (fun u hu => by obtain rfl := List.mem_singleton.1 hu; rfl) (by unfold maxLen; omega) (by omega) ?_); go_loud (intro C4 k4 w4 hown4 hg4; have HO4 := hidb hown4; have HG4 := hidb hg4; have HB4 := hidb (HB5.out.grown hg4 HB5.out.size (fun q hq => (HO5.out.lt q hq).1)); clear hown4 hg4)))
          have HZ4 : Hid (∀ z ∈ zs ++ [⟨D, i, kd, slRow xs l L j i⟩], OwnZ w.heap.size w4 z) := hidb (fun z hz => (HZ3.out z hz).grown HO5.out HG4.out)
          go_roundw
          case rel =>
            exact ⟨j + 1, zs ++ [⟨D, i, kd, slRow xs l L j i⟩], C4, k4, by omega, hidb (by rw [List.length_append, hzl.out]; rfl), by go_num, rfl, by rw [List.map_append]; exact HO4, HZ4, HNEXT, HB4⟩
          case measure => simp [intOf]; omega
    · obtain rfl : j = m := by omega
      have HRET : Hid (slAll xs l L = (vvals zs, 0)) := hidb (by rw [HF.out, List.drop_of_length_le (by rw [HLr.out.len]; omega)]; rfl)
      --@11
      go_wp2
      go_ret2
      exact PG.out _ C kc zs _ hzl.out HB.out HO.out HZ.out HRET.out
end
end Go.Proofs.YtlniakcoikhilaaGreatDoor
