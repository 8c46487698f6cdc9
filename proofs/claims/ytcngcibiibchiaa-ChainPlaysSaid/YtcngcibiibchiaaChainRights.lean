/- The walk of layer 8's ChainRights. -/
import Derived.Test.YtcngcibiibchiaaChainLaws0
import Derived.Test.YtcngcibiibchiaaChainRef
import Derived.Test.YtcngcibiibchiaaChainActs
namespace Go.Proofs.Ytcngcibiibchiaa
open Go.RowKit
set_option linter.unusedVariables false

theorem read_words8 {H : Type} {enc : TypeId × Value → H} {W : World} {sp : Nat → Bool} {hd : Bool} {v : Value} {d : DataW H} {ps : List MemPlace} (h : DataW.Trod enc Try.prog W 0 sp hd 30 v d ps) :
    ∃ (A : Option Addr) (len cap : Nat) (ws : List Nat), v.cells.toList = [.slice A len cap] ∧ len ≤ maxLen ∧ Sl W W.heap.size A len (ws.map wv) ∧ Wide ws := by
  obtain ⟨fuel, hf⟩ := h
  obtain ⟨A, len, cap, zs, h1, h2, h3, h4⟩ := read_ints Try.underlying30 Try.underlying31 a8_u64 hf
  obtain ⟨h5, h6⟩ := words_nat zs h4
  exact ⟨A, len, cap, zs.map Int.toNat, h1, h2, by rw [h5]; exact h3, fun x hx => h6 x hx⟩
/-- A chain that comes round at its own block is none. -/
theorem round_none {w : List Nat} {a : Int} (hl : w.getD a.toNat 0 = a.toNat + 1) (h0 : 0 ≤ a) (len : Int) : cList w (a + 1, len) = none := by
  cases hc : cList w (a + 1, len) with
  | none => rfl
  | some l =>
    obtain ⟨k, hd, _⟩ := cList_iff.1 hc
    match l, k, hd with
    | [], k, _ =>
      have : a + 1 = 0 := k
      omega
    | b :: l, k, hd =>
      obtain ⟨e1, e2, e3, k2⟩ := k
      obtain rfl : a = b := by omega
      rw [hl] at k2
      match l, k2, hd with
      | [], k2, _ =>
        have : ((a.toNat + 1 : Nat) : Int) = 0 := k2
        omega
      | c :: l, k2, hd =>
        obtain ⟨f1, f2, f3, _⟩ := k2
        obtain rfl : a = c := by omega
        exact absurd (List.mem_cons_self ..) (List.nodup_cons.1 hd).1
theorem one_rn (W : World) (a b : Int) (t : TypeId) : Rn (W.alloc (.cells #[.int .i64 a, .int .i64 b] t)) (W.alloc (.cells #[.int .i64 a, .int .i64 b] t)).heap.size (some ⟨W.heap.size, 0, none⟩) 1 [(a, b)] :=
  ⟨rfl, fun _ => ⟨W.heap.size, 0, rfl, by simp, fun j r hj => by
    match j, hj with
    | 0, hj =>
      obtain rfl := Option.some.inj hj
      exact ⟨by rw [World.cell?_alloc_at _ _ _ _ rfl]; rfl, by rw [World.cell?_alloc_at _ _ _ _ rfl]; rfl⟩
    | j + 1, hj => simp at hj⟩⟩
theorem cRight_one (ws : List Nat) (r : Int × Int) : cRight ws [r] = (cList ws r).isSome := by simp [cRight]
theorem words_wide {ws : List Nat} (h : Wide ws) (hn : ws.length ≤ 60) : Wide ((aStore zs256 0 ws).set 255 256) := by
  refine Wide.set (fun x hx => ?_) _ (by omega)
  unfold aStore at hx
  simp only [List.mem_append] at hx
  rcases hx with (hx | hx) | hx
  · exact zs256_wide x (List.mem_of_mem_take hx)
  · exact h x hx
  · exact zs256_wide x (List.mem_of_mem_drop hx)
theorem words_len {ws : List Nat} (hn : ws.length ≤ 60) : ((aStore zs256 0 ws).set 255 256).length = 256 := by
  rw [List.length_set, aStore_length _ _ _ (by rw [zs256_length]; omega), zs256_length]
theorem words_round {ws : List Nat} (hn : ws.length ≤ 60) (len : Int) : cList ((aStore zs256 0 ws).set 255 256) (256, len) = none :=
  round_none (a := 255) (getD_set_eq _ _ _ (by rw [aStore_length _ _ _ (by rw [zs256_length]; omega), zs256_length]; omega)) (by omega) len

/-- A store into 256 words of the document's. -/
theorem ref_store256 (A A2 : Option Addr) (c n2 c2 : Nat) (xs ys : List Nat) (at' : Nat) (w : World) (hs : Sl w w.heap.size A 256 (xs.map wv)) (hs2 : Sl w w.heap.size A2 n2 (ys.map wv)) (hin : at' + n2 ≤ 256) :
    Calls Try.prog 15 #[.slice A 256 c, .int .i64 (at' : Int), .slice A2 n2 c2] w fun e w' => ∃ A c, e = .returned (.tuple #[.slice A 256 c, .int .i64 0]) ∧ Sl w' w'.heap.size A 256 ((aStore xs at' ys).map wv) ∧ Below w.heap.size w w' := by
  have h1 : xs.length = 256 := by have := hs.1; simpa using this
  have h2 : ys.length = n2 := by have := hs2.1; simpa using this
  refine (ref_astore A A2 256 c n2 c2 xs ys at' w hs hs2 (by omega) (by omega) hin).mono fun e w' q => ?_
  obtain ⟨A3, c3, e1, e2, e3⟩ := q
  have h3 : (aStore xs at' ys).length = 256 := by rw [aStore_length _ _ _ (by omega), h1]
  rw [h3] at e1 e2
  exact ⟨A3, c3, e1, Sl.of_own e2, e3⟩

set_option maxRecDepth 100000 in
set_option maxHeartbeats 2000000 in
theorem chainRights_any (A1 : Option Addr) (n1 c1 : Nat) (ws : List Nat) (A2 : Option Addr) (n2 c2 : Nat) (rs : List (Int × Int)) (w : World) (hs1 : Sl w w.heap.size A1 n1 (ws.map wv)) (hw : Wide ws) (hn1 : n1 ≤ maxLen)
    (hs2 : Rn w w.heap.size A2 n2 rs) (hr : ∀ r ∈ rs, in64 r.1 ∧ in64 r.2) (hn2 : n2 ≤ maxLen) :
    Calls Try.prog 5 #[.slice A1 n1 c1, .slice A2 n2 c2] w fun e w' => e = .returned (.bool true) ∧ Below w.heap.size w w' := by
  have ca := fun W => awake8 W
  unfold maxLen at hn1 hn2
  by_cases h1 : 60 < n1
  · clear hs1 hs2 hr
    go_enter Try.func5, Try.ntmps5
    go_wp2_with (first | (go_at_call 7; (with_reducible refine (ca _).mono ?_); rintro e w1 ⟨rfl, hb1⟩))
    go_ret
    exact ⟨rfl, hb1⟩
  by_cases h2 : 20 < n2
  · clear hs1 hs2 hr
    go_enter Try.func5, Try.ntmps5
    go_wp2_with (first | (go_at_call 7; (with_reducible refine (ca _).mono ?_); rintro e w1 ⟨rfl, hb1⟩))
    go_ret
    exact ⟨rfl, hb1⟩
  have lws : ws.length = n1 := by have := hs1.1; simpa using this
  have lrs := hs2.1
  have LWS : Hid (ws.length ≤ 60) := hidb (by omega)
  have LN := hidb lws
  have LRS := hidb lrs
  have HS1 : Hid (∀ W, Below w.heap.size w W → Sl W W.heap.size A1 n1 (ws.map wv)) := hidb (fun W hb => (hs1.below hb).more hb.size)
  have HS2 : Hid (∀ W, Below w.heap.size w W → Rn W W.heap.size A2 n2 rs) := hidb (fun W hb => (hs2.below hb).more hb.size)
  have HR := hidb hr
  have cn := code_new4 w
  obtain ⟨i0, hi, hz0, hz1, hz2⟩ := info_parts info_u64
  obtain ⟨F, hF⟩ : ∃ F, (aStore zs256 0 ws).set 255 256 = F := ⟨_, rfl⟩
  have HFW : Hid (Wide F) := hidb (by rw [← hF]; exact words_wide hw LWS.out)
  have HFL : Hid (F.length = 256) := hidb (by rw [← hF]; exact words_len LWS.out)
  have HFR : Hid (∀ len, cList F (256, len) = none) := hidb (fun len => by rw [← hF]; exact words_round LWS.out len)
  have HFE := hidb hF
  clear hs1 hs2 hr hw lws lrs hF
  go_enter Try.func5, Try.ntmps5
  go_wp2_with (first
    | (go_at_call 8; (with_reducible refine cn.mono ?_); rintro e w1 ⟨p, g, rfl, har, hb1⟩; have HAR := hidb har; have HB1 := hidb hb1; have cs := code_astore 0 A1 n1 c1 har (HS1.out w1 hb1) (by omega); rw [show ((0 : Nat) : Int) = 0 from rfl] at cs; clear har hb1)
    | (go_at_call 16; (with_reducible refine cs.mono ?_); rintro e w2 ⟨rfl, ha2, hg2⟩; have HA2 := hidb ha2; have HB2 := hidb (bel_ar HB1.out hg2 HAR.out.geg); have cs2 := code_astore (ys := [256]) 255 (some ⟨w2.heap.size, 0, none⟩) 1 1 (ha2.alloc (.cells #[.int .u64 256] 31)) (Sl.one_ w2 256 _) (by omega); rw [show ((255 : Nat) : Int) = 255 from rfl] at cs2; clear ha2 hg2 cs)
    | (go_at_call 16; (with_reducible refine cs2.mono ?_); rintro e w3 ⟨rfl, ha3, hg3⟩; rw [aStore_one (by rw [HA2.out.hlen]; omega), HFE.out] at ha3; have HA3 := hidb ha3; have HB3 := hidb (bel_ar (HB2.out.alloc HB2.out.size _) hg3 HAR.out.geg); clear ha3 hg3 cs2)
    | (at_make; refine wpList_make_full w3 rfl _ _ 30 rfl w3.heap.size 31 i0 (.int .u64 0) 1 Try.underlying30 hi hz0 hz1 .i64 .i64 _ _ 256 rfl rfl (by omega) (by omega) (by rw [hz2]; omega) (by unfold maxLen; omega) (Nat.le_refl _) ?_; intro w4 hown hgrow; have hsl := Sl.of_own hown; rw [zero_words 256] at hsl; have HB4 : Hid (Below w3.heap.size w3 w4) := hidb ((Below.refl _ _).grown hgrow (Nat.le_refl _) (fun k hk => by cases hk)); have cr1 := ref_store256 (some ⟨w3.heap.size, 0, none⟩) A1 256 n1 c1 zs256 ws 0 w4 hsl (HS1.out w4 (HB3.out.trans (HB4.out.mono HB3.out.size))) (by omega); rw [show ((0 : Nat) : Int) = 0 from rfl] at cr1; clear hown hgrow hsl)
    | (go_at_call 15; (with_reducible refine cr1.mono ?_); rintro e w5 ⟨A5, c5, rfl, hsl5, hb5⟩; have HB5 := hidb (HB4.out.trans (hb5.mono HB4.out.size)); have cr2 := ref_store256 A5 (some ⟨w5.heap.size, 0, none⟩) c5 1 1 (aStore zs256 0 ws) [256] 255 (w5.alloc (.cells #[.int .u64 256] 31)) ((hsl5.below ((Below.refl _ _).alloc (Nat.le_refl _) _)).more (by simp)) (Sl.one_ w5 256 _) (by omega); rw [show ((255 : Nat) : Int) = 255 from rfl] at cr2; clear hsl5 hb5 cr1)
    | (go_at_call 15; (with_reducible refine cr2.mono ?_); rintro e w6 ⟨A6, c6, rfl, hsl6, hb6⟩; rw [aStore_one (by rw [HA2.out.hlen]; omega), HFE.out] at hsl6; have HSL6 := hidb hsl6; have HB6 : Hid (Below w3.heap.size w3 w6) := hidb ((HB5.out.alloc HB5.out.size _).trans (hb6.mono (by have := HB5.out.size; simp; omega))); clear hsl6 hb6 cr2))
  have HFIN : Hid (∀ W, Below w6.heap.size w6 W → Below w.heap.size w W) := hidb (fun W hb => by
    have h1 := HB3.out.trans (HB6.out.mono HB3.out.size)
    exact h1.trans (hb.mono h1.size))
  have HA6 : Hid (∀ W, Below w6.heap.size w6 W → Ar W w.heap.size p g 256 F) := hidb (fun W hb => (HA3.out.below HB6.out (Nat.le_refl _)).below hb (Nat.le_refl _))
  have HCL : Hid (∀ W, Below w6.heap.size w6 W → ∀ r ∈ rs, Calls Try.prog 17 #[.slice A6 256 c6, .agg #[.int .i64 r.1, .int .i64 r.2]] W (ResChain W (cList F r))) := hidb (fun W hb r hm => by
    obtain ⟨q1, q2⟩ := HR.out r hm
    exact ref_clist A6 256 c6 F r.1 r.2 W ((HSL6.out.below hb).more hb.size) (by omega) q1 q2)
  have HRT : Hid (∀ W, Below w6.heap.size w6 W → Calls Try.prog 19 #[.pointer (some ⟨p, 0, none⟩), .slice A2 n2 c2] W fun e w' => e = .returned (.bool (cRight F rs)) ∧ Below W.heap.size W w') := hidb (fun W hb => code_cright (HA6.out W hb) HFW.out A2 n2 c2 rs (HS2.out W (HFIN.out W hb)) (by omega) HR.out)
  have HR1 : Hid (∀ W len, in64 len → Below w6.heap.size w6 W → Calls Try.prog 19 #[.pointer (some ⟨p, 0, none⟩), .slice (some ⟨W.heap.size, 0, none⟩) 1 1] (W.alloc (.cells #[.int .i64 256, .int .i64 len] 23)) fun e w' => e = .returned (.bool false) ∧ Below w6.heap.size w6 w') := hidb (fun W len hl hb => by
    have hb2 := hb.alloc hb.size (.cells #[.int .i64 256, .int .i64 len] 23)
    have := code_cright (HA6.out _ hb2) HFW.out (some ⟨W.heap.size, 0, none⟩) 1 1 [(256, len)] (one_rn W 256 len _) (by omega) (fun r hr => by
      obtain rfl := List.mem_singleton.1 hr
      exact ⟨by unfold in64; omega, hl⟩)
    rw [cRight_one, HFR.out] at this
    exact this.mono fun e w' q => ⟨q.1, hb2.trans (q.2.mono hb2.size)⟩)
  clear cn hi hz0 hz1 hz2
  go_loopw [9, 10] (fun av kv wr => ∃ (j : Nat) (b : Bool), j ≤ n2 ∧ kv = .int .i64 j ∧ av = .bool b ∧ Hid (b = (rs.take j).all fun r => (cList F r).isSome) ∧ Hid (Below w6.heap.size w6 wr)) (fun _ kv _ => (n2 - intOf kv).toNat)
  case atStart => exact ⟨0, true, Nat.zero_le _, rfl, rfl, hidb rfl, hidb (Below.refl _ _)⟩
  case round =>
    obtain ⟨j, b, hj, rfl, rfl, HB, HW⟩ := hrel
    by_cases hlt : j < n2
    · obtain ⟨bl, off, s, l, hA, _, hx, hc1, hc2⟩ := (HS2.out wr (HFIN.out wr HW.out)).at_ hlt
      have cl := HCL.out wr HW.out (s, l) (List.mem_of_getElem? hx)
      unfold ResChain at cl
      have HT : Hid ((rs.take (j + 1)).all (fun r => (cList F r).isSome) = (b && (cList F (s, l)).isSome)) := hidb (by rw [List.take_add_one, hx, List.all_append, HB.out]; simp)
      obtain ⟨ok, hok⟩ : ∃ ok, (cList F (s, l)).isSome = ok := ⟨_, rfl⟩
      rw [hok] at cl HT
      have hj0 : (0 : Int) ≤ (j : Int) := by omega
      have hj1 : (j : Int) < (n2 : Int) := by omega
      subst hA
      clear hx hok
      cases b <;> cases ok
      all_goals
        go_wp2_with (first | (go_at_call 17; (with_reducible refine cl.mono ?_); rintro e w7 ⟨A7, m7, c7, out7, rfl, _, _, hb7, _⟩))
        go_roundw
        case rel => exact ⟨j + 1, _, by omega, by go_num, rfl, hidb (by rw [HT.out]; rfl), hidb (HW.out.trans (hb7.mono HW.out.size))⟩
        case measure => simp [intOf]; omega
    · obtain rfl : j = n2 := by omega
      rw [List.take_of_length_le (by have := LRS.out; omega)] at HB
      have HB2 : Hid (cRight F rs = b) := hidb HB.out.symm
      have crt := HRT.out wr HW.out
      rw [HB2.out] at crt
      clear HB
      cases b
      all_goals
        go_wp2_with (first
          | (go_at_call 19; (with_reducible refine crt.mono ?_); rintro e w7 ⟨rfl, hb7⟩; have HW7 := hidb (HW.out.trans (hb7.mono HW.out.size)); have cr1 := HR1.out w7 1 (by unfold in64; omega) HW7.out; clear hb7 crt)
          | (go_at_call 19; (with_reducible refine cr1.mono ?_); rintro e w8 ⟨rfl, hb8⟩; have HW8 := hidb hb8; have cr2 := HR1.out w8 2 (by unfold in64; omega) HW8.out; clear hb8 cr1)
          | (go_at_call 19; (with_reducible refine cr2.mono ?_); rintro e w9 ⟨rfl, hb9⟩; have HW9 := hidb hb9; clear hb9 cr2)
          | (go_at_call 7; (with_reducible refine (ca _).mono ?_); rintro e w10 ⟨rfl, hb10⟩))
        go_ret
        exact ⟨rfl, HFIN.out _ (HW9.out.trans (hb10.mono HW9.out.size))⟩

end Go.Proofs.Ytcngcibiibchiaa
