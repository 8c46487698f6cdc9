/- slices.SortFunc of a row of pointers to cut spans, by where these begin; slices.SortedFunc of maps.Values. -/
import Derived.Test.YtcgfmpegakpddaaGreatPoolCol
import Derived.Test.YtcgfmpegakpddaaGreatShelf2
namespace Go.Proofs.YtcgfmpegakpddaaGreat
open Go.RowKit Go.Shelf Go.Lib Go.Sort Go.Maps
set_option linter.unusedVariables false
attribute [local go_sem] Oper.semAt_some

theorem put_rw1 {E : Type} [Inhabited E] (f : E → Value) {w : World} {g : Nat} {e : TypeId} {L : List Value} (h : Rw w g e L) (m : Nat) (d : Array E) (os : Array Obj) (hd : d.size ≤ L.length) :
    Rw (sortWorld f w g 0 m d os) g e (d.toList.map f ++ L.drop d.size) ∧ w.grownBy (sortWorld f w g 0 m d os) (some g) := by
  have hlt := h.lt
  unfold Rw at h
  unfold sortWorld putRow
  have hsz : (mapBlock (Sort.ahead w m) g (putCells f 0 d)).heap.size = w.heap.size := by simp [mapBlock, Sort.ahead]
  constructor
  · unfold Rw
    rw [heap_grow_old _ _ (by rw [hsz]; exact hlt)]
    show ((w.heap.modify g (onCells (putCells f 0 d))))[g]? = _
    rw [Array.getElem?_modify, if_pos rfl, h]
    show some (Obj.cells _ e (0, 0)) = _
    congr 2
    unfold putCells
    apply Array.ext_getElem?
    intro k
    rw [Array.getElem?_mapIdx]
    by_cases hk : k < d.size
    · have hkL : k < L.length := by omega
      have hkd : k < d.toList.length := by simpa using hk
      rw [List.getElem?_toArray, List.getElem?_toArray, List.getElem?_append_left (by simpa using hk), List.getElem?_eq_getElem hkL, List.getElem?_map, List.getElem?_eq_getElem hkd]
      simp only [Option.map_some, Nat.sub_zero]
      rw [if_pos (by simp; omega), getElem!_pos d _ hk, Array.getElem_toList]
    · rw [List.getElem?_toArray, List.getElem?_toArray, List.getElem?_append_right (by rw [List.length_map, Array.length_toList]; omega), List.getElem?_drop, List.length_map, Array.length_toList, show d.size + (k - d.size) = k by omega]
      cases L[k]? with
      | none => rfl
      | some u =>
        simp only [Option.map_some]
        rw [if_neg (by simp; omega)]
  · refine ⟨rfl, rfl, rfl, ?_, fun k hk hr => ?_⟩
    · have : (grow (mapBlock (Sort.ahead w m) g (putCells f 0 d)) os).heap.size = w.heap.size + os.size := by simp [grow, hsz]
      omega
    · rw [heap_grow_old _ _ (by rw [hsz]; exact hk)]
      show ((w.heap.modify g (onCells (putCells f 0 d))))[k]? = _
      rw [Array.getElem?_modify, if_neg (fun e => hr (by rw [e]))]
theorem holds_rw1 {E : Type} [Inhabited E] (f : E → Value) {w : World} {g : Nat} {e : TypeId} {L : List Value} (h : Rw w g e L) (d : Array E) (hd : L.take d.size = d.toList.map f) : Holds f w g 0 d := by
  intro j hj
  have hl : j < L.length := by
    have h1 : (L.take d.size).length = d.size := by rw [hd]; simp
    have h2 := List.length_take_le' d.size L
    omega
  refine ⟨?_, h.free _⟩
  rw [Nat.zero_add, h.cell]
  have h2 : (L.take d.size)[j]? = L[j]? := by rw [List.getElem?_take, if_pos hj]
  rw [← h2, hd, List.getElem?_map, getElem!_pos d j hj]
  simp [hj]

set_option maxHeartbeats 1000000 in
theorem code_cmpP (xb yb : Nat) (xs ys : Int) (W : World) (h0 : W.cell? ⟨xb, 1, none⟩ = some (.int .i64 xs)) (h1 : W.cell? ⟨yb, 1, none⟩ = some (.int .i64 ys)) :
    Calls Tryz.prog 113 #[.pointer (some ⟨xb, 0, none⟩), .pointer (some ⟨yb, 0, none⟩)] W fun e w' => e = .returned (.int .i64 (Lib.compareInt xs ys)) ∧ ∃ q, w' = W.drewN q := by
  have hcon : ∀ q, Calls Tryz.prog 73 #[.int .i64 xs, .int .i64 ys] (W.drewN q) fun e w' => e = .returned (.int .i64 (Lib.compareInt xs ys)) ∧ ∃ m, w' = W.drewN m := fun q => (AnyG.cmp_Compare_int Tryz.cmpInt xs ys (W.drewN q)).mono fun e w' h => ⟨h.1, q, h.2⟩
  generalize Lib.compareInt xs ys = r at hcon ⊢
  go_enter Tryz.func113, Tryz.ntmps113
  go_wp2
  go_quiet (first | (go_at_call 73; (with_reducible exact hcon _)))
  go_wp2
  go_ret
  exact ⟨rfl, _, rfl⟩

theorem lt_startP (x y : Int) : ltOf Lib.compareInt x y = decide (x < y) := by
  unfold ltOf Lib.compareInt
  by_cases h1 : x < y
  · simp [h1]
  · by_cases h2 : y < x <;> simp [h1, h2]
theorem swo_startP {E : Type} (f : E → Int) : SWO (ltOf fun x y : E => Lib.compareInt (f x) (f y)) where
  irrefl x := by have := lt_startP (f x) (f x); unfold ltOf at *; rw [this]; simp
  trans x y z h1 h2 := by have a := lt_startP (f x) (f y); have b := lt_startP (f y) (f z); have c := lt_startP (f x) (f z); unfold ltOf at *; rw [a] at h1; rw [b] at h2; rw [c]; simp at *; omega
  ntrans x y z h1 h2 := by have a := lt_startP (f x) (f y); have b := lt_startP (f y) (f z); have c := lt_startP (f x) (f z); unfold ltOf at *; rw [a] at h1; rw [b] at h2; rw [c]; simp at *; omega

/-- What the sort leaves. -/
def SortedP (w : World) (base : Nat) (A : Option Addr) (n c : Nat) (rs : List CutV) (e : Ending) (w' : World) : Prop :=
  e = .returned (.tuple #[]) ∧ ∃ ds : List CutV, ds.Perm rs ∧ (ds.Pairwise fun a b => a.s.2.1 ≤ b.s.2.1) ∧ w'.ownsRow base 109 1 (.slice A n c) n (cellsAll pcell ds) ∧ w.grownBy w' (Value.slice A n c).ownBlock
theorem cellsAll_p (ds : List CutV) : cellsAll pcell ds = ds.map fun k => Value.pointer (some ⟨k.b, 0, none⟩) := by
  induction ds with
  | nil => rfl
  | cons k ds ih => show pcell k ++ cellsAll pcell ds = _; rw [ih]; rfl
theorem code_sortP (A : Option Addr) (n c : Nat) (rs : List CutV) (w : World) (base : Nat) (hown : w.ownsRow base 109 1 (.slice A n c) n (cellsAll pcell rs)) (hl : rs.length = n) (h0 : ¬ n = 0) (hn : n ≤ 4611686018427387903)
    (hc : ∀ k ∈ rs, CutAt w k ∧ k.b < base) :
    Calls Tryz.prog 152 #[.slice A n c, .func (.func 113) #[] #[]] w (SortedP w base A n c rs) := by
  obtain ⟨g, rfl⟩ : ∃ g, A = some ⟨g, 0, none⟩ := by
    rcases hown.2 with ⟨_, h⟩ | ⟨g, cap, cur, h, _⟩
    · exact absurd h h0
    · injection h with e1; exact ⟨g, e1⟩
  obtain ⟨L, hL, hbg, hnc, hcm, hLl, hxs⟩ := own_whole hown
  rw [Nat.mul_one] at hLl hxs
  have eg : ∀ args w, (callFunc 113 args).run Tryz.prog w = .ok (.enter 113 args) w := enters_of Tryz.func113 (by kernel_rfl) rfl
  have hne : rs ≠ [] := fun e => h0 (by rw [← hl, e]; rfl)
  obtain ⟨k0, hk0⟩ := List.exists_mem_of_ne_nil rs hne
  let E := { k : CutV // k ∈ rs }
  haveI : Inhabited E := ⟨⟨k0, hk0⟩⟩
  let enc : E → Value := fun k => .pointer (some ⟨k.1.b, 0, none⟩)
  let d : Array E := rs.attach.toArray
  have hd : d.size = n := by show rs.attach.toArray.size = n; simpa using hl
  have hmap : ∀ l : List E, l.map enc = cellsAll pcell (l.map (·.1)) := fun l => by rw [cellsAll_p, List.map_map]; rfl
  have hdl : d.toList.map (·.1) = rs := by show (rs.attach.toArray.toList).map (·.1) = rs; simp
  have hH : Holds enc w g 0 d := holds_rw1 enc hL d (by rw [hd, ← hxs, hmap, hdl])
  have hcmp : CmpLays1 Tryz.prog 113 #[] enc (fun x y => Lib.compareInt x.1.s.2.1 y.1.s.2.1) g 0 d.size w := fun m os dk hs x y => by
    have hg := (put_rw1 enc hL m dk os (by rw [hs, hd, hLl]; exact hnc)).2
    have q : ∀ z : E, (sortWorld enc w g 0 m dk os).cell? ⟨z.1.b, 1, none⟩ = some (.int .i64 z.1.s.2.1) := fun z => by
      obtain ⟨h1, h2⟩ := hc z.1 z.2
      exact (World.cell?_of_block (w := w) (a := ⟨z.1.b, 1, none⟩) (hg.block _ h1.lt (fun e => by have e2 := Option.some.inj e; simp only at e2; omega))).trans h1.c1
    refine (code_cmpP x.1.b y.1.b _ _ _ (q x) (q y)).mono ?_
    rintro e w' ⟨h1, q, h2⟩
    exact ⟨h1, q, #[], by rw [h2, grow_empty]⟩
  have h := Any.slices_SortFunc Tryz.sortCuts enc (fun _ => rfl) (fun x y => Lib.compareInt x.1.s.2.1 y.1.s.2.1) (swo_startP fun x : E => x.1.s.2.1) 113 #[] g 0 c d w eg hcmp hH hL.lt (by omega)
  rw [hd] at h
  change Calls Tryz.prog 152 _ _ _ at h
  refine h.mono ?_
  rintro e w' ⟨he, d', m, os, ⟨hp1, _, hp3⟩, hs, rfl⟩
  have hdn : d'.size = n := by rw [hp1, hd]
  obtain ⟨r1, r2⟩ := put_rw1 enc hL m d' os (by rw [hdn, hLl]; exact hnc)
  refine ⟨he, d'.toList.map (·.1), ?_, ?_, ?_, r2⟩
  · have e1 : d'.extract 0 n = d' := by rw [← hdn]; exact Array.extract_size
    have e2 : d.extract 0 n = d := by rw [← hd]; exact Array.extract_size
    rw [e1, e2] at hp3
    have := hp3.map (fun k : E => k.1)
    rw [hdl] at this
    exact this
  · rw [List.pairwise_map, List.pairwise_iff_getElem]
    intro i j hi hj hij
    have hi' : i < d'.size := by simpa using hi
    have hj' : j < d'.size := by simpa using hj
    have := hs i j (Nat.zero_le _) hij (by omega)
    have lt := lt_startP (d'[j]).1.s.2.1 (d'[i]).1.s.2.1
    rw [getElem!_pos d' j hj', getElem!_pos d' i hi'] at this
    unfold ltOf at this lt
    rw [lt] at this
    have := of_decide_eq_false this
    simp only [Array.getElem_toList]
    omega
  · have h2 := own_of_whole (base := base) (s := 1) (n := n) (c := c) r1 hbg hnc hcm (by simp [hLl, hdn]; omega)
    rw [Nat.mul_one, List.take_left' (by simp [hdn]), hmap] at h2
    exact h2

set_option maxRecDepth 100000 in
set_option maxHeartbeats 1000000 in
theorem pvalues1_nil_in (F : Fence) (n : Nat) (hf : F.fn 153) (hro : F.round = none) (l Bm : Nat) (J : List CutV → World → Prop) (W : World) (hJ : AbidesFrom W.heap.size J)
    (hm : W.cell? ⟨Bm, 0, none⟩ = some (.map none)) (h0 : J [] W) :
    CallsIn F n Tryz.prog 153 #[.func (.yield l) #[] #[], .pointer (some ⟨Bm, 0, none⟩)] W fun e W' => (∃ v, e = .returned v) ∧ J [] W' := by
  refine callsIn_of_wp Tryz.func153 rfl hf ?_ hro
  simp only [Tryz.ntmps153, List.size_toArray, List.length_cons, List.length_nil, Nat.reduceAdd, Nat.reduceSub, Array.replicate_succ, Array.replicate_zero, List.push_toArray, List.append_toArray, List.nil_append, List.cons_append]
  have hrg := run_range_nilMap (P := Tryz.prog) W 117 _ _ Tryz.underlying117
  have hnx : ∀ ty, (Instr.next (.pointer (some ⟨W.heap.size, 0, none⟩)) false ty).run Tryz.prog (W.alloc (.mapIter none 0 #[] 0)) = _ := fun ty => run_next_nilMap _ ty 0 0 #[]
  gi_wp2
  refine wpIn_loop_rounds 1 ?_
  rw [roundsIn_succ]
  gi_wp2
  go_end0
  exact ⟨⟨_, rfl⟩, hJ [] W _ none h0 (World.grownBy_alloc W _ none) (fun r e => by cases e)⟩
theorem pvalues_stops_nil (F : Fence) (n : Nat) (h8 : F.fn 153) (hro : F.round = none) (Bm : Nat) (w : World) (hm : w.cell? ⟨Bm, 0, none⟩ = some (.map none)) :
    SeqStopsK F n Tryz.prog 153 #[.pointer (some ⟨Bm, 0, none⟩)] encK KeepsWalks (fun ss => ss = []) (fun _ => True) 0 w := fun l0 J Jx W hW hJ _ _ h0 =>
  (pvalues1_nil_in F n h8 hro l0 Bm J W hJ ((hW.cell (p := ⟨Bm, 0, none⟩) (lt_of_cell hm)).trans hm) h0).mono fun _ _ ⟨he, hj⟩ => ⟨he, .inl ⟨[], rfl, hj⟩⟩
theorem code_pcollect_nil (Bm : Nat) (w : World) (hm : w.cell? ⟨Bm, 0, none⟩ = some (.map none)) :
    Calls Tryz.prog 151 #[.func (.func 153) #[] #[.pointer (some ⟨Bm, 0, none⟩)]] w fun e w' => ∃ A c ss, e = .returned (.slice A (List.length ss) c) ∧ AllP [] ss ∧ w'.ownsRow w.heap.size 109 1 (.slice A ss.length c) ss.length (cellsAll pcell ss) ∧ Below w.heap.size w w' := by
  refine ((callsIn_wide (n := 6)).1 (pcollect_in Fence.wide 6 trivial trivial rfl (by omega) _ _ trivial (enters_of Tryz.func153 (by kernel_rfl) rfl) (fun ss => ss = []) 0 (by omega) w
    (pvalues_stops_nil Fence.wide _ trivial rfl Bm w hm))).mono ?_
  rintro e w' ⟨v, ss, rfl, rfl, hrow, hb⟩
  rcases hrow.2 with ⟨rfl, h0⟩ | ⟨g, cap, cur, rfl, rest⟩
  · exact ⟨none, 0, [], rfl, ⟨List.nodup_nil, fun s => Iff.rfl⟩, hrow, hb⟩
  · exact ⟨_, _, [], rfl, ⟨List.nodup_nil, fun s => Iff.rfl⟩, hrow, hb⟩

set_option maxHeartbeats 2000000 in
/-- The sort of no spans. -/
theorem pisort_none (p : Option Addr) (cap : Nat) (fv : Value) (w : World) :
    Calls Tryz.prog 225 #[.slice p 0 cap, .int .i64 0, .int .i64 0, fv] w fun e w' => e = .returned (.tuple #[]) ∧ w' = w := by
  go_enter Tryz.func225, Tryz.ntmps225
  go_wp2
  refine wp_loop_rounds 1 ?_
  rw [rounds_succ]
  go_wp2
  go_end0
  exact ⟨rfl, rfl⟩
set_option maxHeartbeats 2000000 in
set_option maxRecDepth 100000 in
theorem ppdq_none (p : Option Addr) (cap : Nat) (lim : Int) (fv : Value) (w : World) :
    Calls Tryz.prog 193 #[.slice p 0 cap, .int .i64 0, .int .i64 0, .int .i64 lim, fv] w fun e w' => e = .returned (.tuple #[]) ∧ w' = w := by
  have hi := fun W => pisort_none p cap fv W
  go_enter Tryz.func193, Tryz.ntmps193
  go_wp2
  refine wp_loop_rounds 1 ?_
  rw [rounds_succ]
  go_wp2_with (go_at_call 225; (with_reducible refine (hi _).mono ?_); rintro e w' ⟨rfl, rfl⟩)
  (try simp only [Exit.inBlock, Exit.then]); refine bodyPost_ret (results_none rfl _ _ _) rfl ?_
  exact ⟨rfl, rfl⟩
set_option maxHeartbeats 2000000 in
theorem psort_none (p : Option Addr) (cap : Nat) (fv : Value) (w : World) :
    Calls Tryz.prog 152 #[.slice p 0 cap, fv] w fun e w' => e = .returned (.tuple #[]) ∧ w' = w := by
  have hp := fun lim W => ppdq_none p cap lim fv W
  have hl : ∀ W, Calls Tryz.prog 131 #[.int .u64 0] W fun e w' => e = .returned (.int .i64 (Lib.bitLen 0 : Nat)) ∧ w' = W := fun W => by
    have h := Any.bits_Len (SlLaysF0.n15.bits (P := Tryz.prog) { Tryz.sortSpans with }) 0 W (by omega) (by omega)
    exact h
  generalize (Lib.bitLen 0 : Nat) = bl at hl
  go_enter Tryz.func152, Tryz.ntmps152
  go_wp2_with (first
    | (go_at_call 131; (with_reducible refine (hl _).mono ?_); rintro e w' ⟨rfl, rfl⟩)
    | (go_at_call 193; (with_reducible refine (hp _ _).mono ?_); rintro e w' ⟨rfl, rfl⟩))
  go_end0
  exact ⟨rfl, rfl⟩

/-- Rows of cut spans, that a call made. -/
def OwnCuts (w : World) (l : List CutV) (e : Ending) (w' : World) : Prop :=
  ∃ A c, e = .returned (.slice A (List.length l) c) ∧ w'.ownsRow w.heap.size 109 1 (.slice A l.length c) l.length (cellsAll pcell l) ∧ Below w.heap.size w w'
/-- By rising starts. -/
def InOrderP (l ds : List CutV) : Prop := (ds.map (·.s.1)).Nodup ∧ (∀ s, s ∈ ds ↔ s ∈ l) ∧ ds.Pairwise fun a b => a.s.2.1 ≤ b.s.2.1
theorem code_psortedf (l : List CutV) (hlen : ∀ ss, AllP l ss → ss.length ≤ 1000000000) (B : Nat) (w : World) (hk : ∀ k ∈ l, CutAt w k) (hc : Calls Tryz.prog 151 #[.func (.func 153) #[] #[.pointer (some ⟨B, 0, none⟩)]] w fun e w' => ∃ A c ss, e = .returned (.slice A (List.length ss) c) ∧ AllP l ss ∧ w'.ownsRow w.heap.size 109 1 (.slice A ss.length c) ss.length (cellsAll pcell ss) ∧ Below w.heap.size w w') :
    Calls Tryz.prog 110 #[.func (.func 153) #[] #[.pointer (some ⟨B, 0, none⟩)], .func (.func 113) #[] #[]] w fun e w' => ∃ ds, InOrderP l ds ∧ OwnCuts w ds e w' := by
  have HS : Hid (∀ W A c (ss : List CutV) n, ss.length = n → AllP l ss → Below w.heap.size w W → W.ownsRow w.heap.size 109 1 (.slice A n c) n (cellsAll pcell ss) → ¬ n = 0 → Calls Tryz.prog 152 #[.slice A n c, .func (.func 113) #[] #[]] W (SortedP W w.heap.size A n c ss)) := hidb (fun W A c ss n hn hS hb hrow h0 => by
    have := hlen ss hS
    exact code_sortP A n c ss W w.heap.size hrow hn h0 (by omega) fun k h => by
      have := hk k ((hS.2 k).1 h)
      exact ⟨this.below hb, this.lt⟩)
  have HSn : Hid (∀ A c W, Calls Tryz.prog 152 #[.slice A 0 c, .func (.func 113) #[] #[]] W fun e w' => e = .returned (.tuple #[]) ∧ W = w') := hidb (fun A c W => (psort_none A c _ W).mono fun e w' ⟨h1, h2⟩ => ⟨h1, h2.symm⟩)
  clear hlen hk
  go_enter Tryz.func110, Tryz.ntmps110
  go_wp2_with (first
    | (go_at_call 151; (with_reducible refine hc.mono ?_); rintro e w1 ⟨A, c, ss, rfl, hS, hrow, hb1⟩))
  obtain ⟨n, hn⟩ : ∃ n, ss.length = n := ⟨_, rfl⟩
  rw [hn] at hrow ⊢
  by_cases h0 : n = 0
  · subst h0
    obtain rfl : ss = [] := List.eq_nil_of_length_eq_zero hn
    have hsn := HSn.out A c w1
    clear hn
    go_wp2_with (first
      | (go_at_call 152; (with_reducible refine hsn.mono ?_); rintro e w2 ⟨rfl, rfl⟩))
    go_ret
    exact ⟨[], ⟨List.nodup_nil, hS.2, List.Pairwise.nil⟩, A, c, rfl, hrow, hb1⟩
  · have cs := HS.out w1 A c ss n hn hS hb1 hrow h0
    have HN := hidb hn
    have HS2 := hidb hS
    have hne : ∀ b, (Value.slice A n c).ownBlock = some b → w.heap.size ≤ b := fun b hb => (hrow.lt b hb).1
    have HNE := hidb hne
    clear hn hS h0 hrow hne
    unfold SortedP at cs
    go_wp2_with (first
      | (go_at_call 152; (with_reducible refine cs.mono ?_); rintro e w2 ⟨rfl, ds, hp, hr, hrow2, hg2⟩))
    have hl : ds.length = n := by rw [hp.length_eq]; exact HN.out
    go_ret
    refine ⟨ds, ⟨(hp.map _).nodup_iff.2 HS2.out.1, fun s => (hp.mem_iff).trans (HS2.out.2 s), hr⟩, A, c, (by rw [hl]; rfl), (by rw [hl]; exact hrow2), hb1.grown hg2 hb1.size (fun b hb => HNE.out b hb)⟩

theorem code_pvalues (mb : Option Nat) (w : World) :
    Calls Tryz.prog 111 #[.map mb] w fun e w' => e = .returned (.func (.func 153) #[] #[.pointer (some ⟨w.heap.size, 0, none⟩)]) ∧ w' = w.alloc (.cells #[.map mb] 117) := by
  go_enter Tryz.func111, Tryz.ntmps111
  go_wp2
  go_ret
  exact ⟨rfl, rfl⟩

end Go.Proofs.YtcgfmpegakpddaaGreat
