/- Free runs in memory; what Has, List, Pages and Best return. -/
import Derived.Test.YtbihliaeidpfaaaKept
import Derived.Test.YtbihliaeidpfaaaRunsClone
import Derived.Test.YtbihliaeidpfaaaRunsRef2
import Derived.Laws.NewBlocks
namespace Go.Proofs.Ytbihliaeidpfaaa
open Go.RowKit
set_option linter.unusedVariables false

/-- Free runs that have the pages f: their cell, and their row. -/
structure FrAt (w : World) (p : Nat) (A : Option Addr) (n c : Nat) (f : List Bool) : Prop where
  cell : w.cell? ⟨p, 0, none⟩ = some (.slice A n c)
  free : w.frozen? ⟨p, 0, none⟩ = false
  own : w.ownsRow 0 34 2 (.slice A n c) n (rcells (fList f))
  len : (fList f).length = n
  ne : ∀ k, (Value.slice A n c).ownBlock = some k → k ≠ p
  flen : f.length = 1024
/-- .. whose blocks are of S. -/
def Fr (w : World) (S : Nat → Prop) (p : Nat) (f : List Bool) : Prop :=
  ∃ A n c, FrAt w p A n c f ∧ S p ∧ (∀ k, (Value.slice A n c).ownBlock = some k → S k) ∧ ∀ b, S b → b < w.heap.size

section
variable {w w' : World} {S S' : Nat → Prop} {p n c : Nat} {A : Option Addr} {f : List Bool}
theorem FrAt.ltp (h : FrAt w p A n c f) : p < w.heap.size := lt_of_cell h.cell
theorem FrAt.le (h : FrAt w p A n c f) : n ≤ 1024 := by
  have h1 := fList_len f
  have h2 := h.len
  have h3 := h.flen
  omega
theorem FrAt.nil (h : FrAt w p A n c f) : A = none → c = 0 := fun e => by
  exact (own_capsK h.own).2.2 e
theorem FrAt.keep (h : FrAt w p A n c f) (hk : Kept S w w') (hp : ¬ S p) (hr : ∀ k, (Value.slice A n c).ownBlock = some k → ¬ S k) : FrAt w' p A n c f :=
  ⟨(hk.cell (a := ⟨p, 0, none⟩) h.ltp hp).trans h.cell, (World.frozen?_of_block (w := w) (a := ⟨p, 0, none⟩) (hk.block p h.ltp hp)).trans h.free, own_kept h.own hk hr, h.len, h.ne, h.flen⟩
theorem FrAt.below (h : FrAt w p A n c f) (hb : Below w.heap.size w w') : FrAt w' p A n c f := h.keep (Kept.of_below hb (fun _ => False)) id (fun _ _ => id)
theorem FrAt.rn (h : FrAt w p A n c f) : Rn w w.heap.size A n (fList f) := Rn.of_own h.own h.len
theorem Fr.flen (h : Fr w S p f) : f.length = 1024 := by obtain ⟨A, n, c, h, _⟩ := h; exact h.flen
theorem Fr.lt (h : Fr w S p f) : ∀ b, S b → b < w.heap.size := by obtain ⟨A, n, c, _, _, _, h⟩ := h; exact h
theorem Fr.ltp (h : Fr w S p f) : p < w.heap.size := by obtain ⟨A, n, c, h, _⟩ := h; exact h.ltp
theorem Fr.below (h : Fr w S p f) (hb : Below w.heap.size w w') : Fr w' S p f := by
  obtain ⟨A, n, c, h1, h2, h3, h4⟩ := h
  exact ⟨A, n, c, h1.below hb, h2, h3, fun b hb' => Nat.lt_of_lt_of_le (h4 b hb') hb.size⟩
theorem Fr.keep (h : Fr w S p f) (hk : Kept S' w w') (hn : ∀ b, S b → ¬ S' b) : Fr w' S p f := by
  obtain ⟨A, n, c, h1, h2, h3, h4⟩ := h
  exact ⟨A, n, c, h1.keep hk (hn _ h2) (fun k hk' => hn _ (h3 k hk')), h2, h3, fun b hb' => Nat.lt_of_lt_of_le (h4 b hb') hk.size⟩
theorem Fr.more_ {w0 : World} (h : Fr w S p f) (hw : w0.heap.size ≤ w.heap.size) : Fr w (more S w0 w) p f := by
  obtain ⟨A, n, c, h1, h2, h3, h4⟩ := h
  exact ⟨A, n, c, h1, ⟨Or.inl h2, h1.ltp⟩, fun k hk => ⟨Or.inl (h3 k hk), h4 k (h3 k hk)⟩, fun b hb => hb.2⟩
end
theorem fList_in (f : List Bool) (hf : f.length = 1024) : ∀ r ∈ fList f, -9223372036854775808 ≤ r.1 + r.2 ∧ r.1 + r.2 ≤ 9223372036854775807 := fun r hr => by
  have := norm_mem (fList_norm f (by omega)) r hr; omega

/-- List: a copy. -/
theorem code_rlist_of (v : Value) (A : Option Addr) (n c : Nat) (rs : List (Int × Int)) (w : World) (hall : Calls Try.prog 35 #[v] w fun e w' => e = .returned (.slice A n c) ∧ w = w')
    (hs : Rn w w.heap.size A n rs) (hn : n ≤ 65536) (hA : A = none → c = 0) : Calls Try.prog 18 #[v] w (OwnRuns w rs) := by
  have cc := code_rclone A n c rs w hs hn hA
  clear hs hA
  go_enter Try.func18, Try.ntmps18
  go_wp2_with (first
    | (go_at_call 35; (with_reducible refine hall.mono ?_); rintro e w' ⟨rfl, rfl⟩)
    | (go_at_call 36; (with_reducible refine cc.mono ?_); rintro e w1 ⟨A1, c1, rfl, h1, h2⟩))
  go_ret
  exact ⟨A1, c1, rfl, h1, h2⟩
theorem code_rlist {w : World} {S : Nat → Prop} {p : Nat} {f : List Bool} (h : Fr w S p f) : Calls Try.prog 18 #[.pointer (some ⟨p, 0, none⟩)] w (OwnRuns w (fList f)) := by
  obtain ⟨A, n, c, h1, _⟩ := h
  exact code_rlist_of _ A n c (fList f) w (code_all p A n c w h1.cell) h1.rn (by have := h1.le; omega) h1.nil
theorem code_rlist_nil (w : World) : Calls Try.prog 18 #[.pointer none] w (OwnRuns w []) :=
  code_rlist_of _ none 0 0 [] w (code_all_nil w) Rn.nil_ (by omega) (fun _ => rfl)

/-- Has. -/
theorem code_rhas_of (v : Value) (A : Option Addr) (n c : Nat) (rs : List (Int × Int)) (s l : Int) (w : World) (hall : ∀ W, Below w.heap.size w W → Calls Try.prog 35 #[v] W fun e w' => e = .returned (.slice A n c) ∧ W = w')
    (hs : Rn w w.heap.size A n rs) (hn : n ≤ 65536) (hr : ∀ r ∈ rs, -9223372036854775808 ≤ r.1 + r.2 ∧ r.1 + r.2 ≤ 9223372036854775807) (h1 : in64 s) (h2 : in64 l) :
    Calls Try.prog 20 #[v, .agg #[.int .i64 s, .int .i64 l]] w fun e w' => e = .returned (.bool (fMay (s, l) && rs.any (inRun (s, l)))) ∧ Below w.heap.size w w' := by
  obtain ⟨W2, hW2⟩ : ∃ W2, W2 = (w.alloc (.cells #[.int .i64 s, .int .i64 l] 34)).alloc (.cells #[.int .i64 s, .int .i64 l] 34) := ⟨_, rfl⟩
  have hz : W2.heap.size = w.heap.size + 1 + 1 := by rw [hW2]; simp
  have HB2 : Hid (Below w.heap.size w W2) := hidb (by rw [hW2]; exact ((Below.refl _ _).alloc (Nat.le_refl _) _).alloc (by simp) _)
  have q0 : W2.cell? ⟨w.heap.size, 0, none⟩ = some (.int .i64 s) := by rw [hW2, World.cell?_alloc_lt _ _ ⟨w.heap.size, 0, none⟩ (by simp)]; simp
  have q1 : W2.cell? ⟨w.heap.size, 1, none⟩ = some (.int .i64 l) := by rw [hW2, World.cell?_alloc_lt _ _ ⟨w.heap.size, 1, none⟩ (by simp)]; simp
  have hrow : Rn W2 W2.heap.size (some ⟨w.heap.size + 1, 0, none⟩) 1 [(s, l)] := ⟨rfl, fun _ => ⟨w.heap.size + 1, 0, rfl, by omega, fun j r hj => by
    obtain ⟨rfl, rfl⟩ : j = 0 ∧ r = (s, l) := by
      cases j with
      | zero => exact ⟨rfl, by simpa using hj.symm⟩
      | succ j => simp at hj
    rw [hW2]
    exact ⟨World.cell?_alloc_at _ _ _ 0 (by simp), World.cell?_alloc_at _ _ _ 1 (by simp)⟩⟩⟩
  have cm := code_may (some ⟨w.heap.size + 1, 0, none⟩) 1 1 [(s, l)] W2 hrow (by omega) (fun r hr => by obtain rfl := List.mem_singleton.1 hr; exact ⟨h1, h2⟩)
  rw [show [(s, l)].all fMay = fMay (s, l) by simp] at cm
  have HW2 := hidb hW2
  cases hm : fMay (s, l) with
  | false =>
    rw [hm] at cm
    rw [Bool.false_and]
    clear hm hrow hW2 q0 q1 hs hall hr h1 h2
    have hzz : w.heap.size ≤ W2.heap.size := by omega
    clear hz
    go_enter Try.func20, Try.ntmps20
    go_wp2_with (first | (go_at_call 25; rw [← HW2.out]; (with_reducible refine cm.mono ?_); rintro e w3 ⟨rfl, hb3⟩))
    go_ret
    exact ⟨rfl, HB2.out.trans (hb3.mono hzz)⟩
  | true =>
    rw [hm] at cm
    rw [Bool.true_and]
    obtain ⟨m1, m2, m3⟩ := (fMay_iff (s, l)).1 hm
    simp only at m1 m2 m3
    have ca : ∀ W, Below w.heap.size w W → Calls Try.prog 32 #[v, .agg #[.int .i64 s, .int .i64 l]] W fun e w' => e = .returned (.int .i64 (idxR (inRun (s, l)) rs)) ∧ Below w.heap.size w w' := fun W hb =>
      (code_around_of v A n c rs s l W (hall _ (hb.alloc hb.size _)) ((hs.below hb).more hb.size) hn ⟨by omega, by omega⟩ hr).mono fun e w' ⟨k1, k2⟩ => ⟨k1, hb.trans (k2.mono hb.size)⟩
    have hq : ∀ W, Below W2.heap.size W2 W → W.cell? ⟨w.heap.size, 0, none⟩ = some (.int .i64 s) ∧ W.cell? ⟨w.heap.size, 1, none⟩ = some (.int .i64 l) := fun W hb => by
      rw [hb.cell (p := ⟨w.heap.size, 0, none⟩) (by show w.heap.size < _; omega), hb.cell (p := ⟨w.heap.size, 1, none⟩) (by show w.heap.size < _; omega)]; exact ⟨q0, q1⟩
    have HQ := hidb hq
    have e := idxR_any (inRun (s, l)) rs
    have hg := idxR_range (inRun (s, l)) rs
    obtain ⟨k, hk⟩ : ∃ k, idxR (inRun (s, l)) rs = k := ⟨_, rfl⟩
    rw [hk] at ca e hg
    rw [← e]
    have hzz : w.heap.size ≤ W2.heap.size := by omega
    clear hm hrow hW2 q0 q1 hs hall hr h1 h2 hz hq hk e m1 m2 m3
    go_enter Try.func20, Try.ntmps20
    go_wp2_with (first
      | (go_at_call 25; rw [← HW2.out]; (with_reducible refine cm.mono ?_); rintro e w3 ⟨rfl, hb3⟩; obtain ⟨y0, y1⟩ := HQ.out _ hb3; have hb4 := HB2.out.trans (hb3.mono hzz))
      | (go_at_call 32; (with_reducible refine (ca _ hb4).mono ?_); rintro e w5 ⟨rfl, hb5⟩))
    go_ret
    exact ⟨rfl, hb5⟩

theorem Fr.all_ {w : World} {S : Nat → Prop} {p : Nat} {f : List Bool} (h : Fr w S p f) : ∃ A n c, FrAt w p A n c f ∧ n ≤ 1024 ∧ ∀ W, Below w.heap.size w W → Calls Try.prog 35 #[.pointer (some ⟨p, 0, none⟩)] W fun e w' => e = .returned (.slice A n c) ∧ W = w' := by
  obtain ⟨A, n, c, h1, _⟩ := h
  exact ⟨A, n, c, h1, h1.le, fun W hb => code_all p A n c W (h1.below hb).cell⟩
theorem code_rhas {w : World} {S : Nat → Prop} {p : Nat} {f : List Bool} (h : Fr w S p f) (s l : Int) (h1 : in64 s) (h2 : in64 l) :
    Calls Try.prog 20 #[.pointer (some ⟨p, 0, none⟩), .agg #[.int .i64 s, .int .i64 l]] w fun e w' => e = .returned (.bool (fHas f (s, l))) ∧ Below w.heap.size w w' := by
  obtain ⟨A, n, c, ha, hn, hall⟩ := h.all_
  rw [fHas_iff f (by have := ha.flen; omega)]
  exact code_rhas_of _ A n c (fList f) s l w hall ha.rn (by omega) (fList_in f ha.flen) h1 h2
theorem code_rhas_nil (w : World) (s l : Int) (h1 : in64 s) (h2 : in64 l) :
    Calls Try.prog 20 #[.pointer none, .agg #[.int .i64 s, .int .i64 l]] w fun e w' => e = .returned (.bool false) ∧ Below w.heap.size w w' := by
  have := code_rhas_of (.pointer none) none 0 0 [] s l w (fun W _ => code_all_nil W) Rn.nil_ (by omega) (fun r hr => by cases hr) h1 h2
  simpa using this

/-- Pages. -/
theorem code_rpages_of (v : Value) (A : Option Addr) (n c : Nat) (rs : List (Int × Int)) (w : World) (hall : Calls Try.prog 35 #[v] w fun e w' => e = .returned (.slice A n c) ∧ w = w')
    (hs : Rn w w.heap.size A n rs) (hn : n ≤ 65536) (hr : ∀ k, 0 ≤ sumL (rs.take k) ∧ sumL (rs.take k) ≤ 1024) :
    Calls Try.prog 22 #[v] w fun e w' => e = .returned (.int .i64 (sumL rs)) ∧ Below w.heap.size w w' := by
  have l1 : rs.length = n := hs.1
  have L1 := hidb l1
  have HS := hidb hs
  have HR := hidb hr
  clear hs hr l1
  go_enter Try.func22, Try.ntmps22
  go_wp2_with (first | (go_at_call 35; (with_reducible refine hall.mono ?_); rintro e w' ⟨rfl, rfl⟩))
  go_loopw [3, 9] (fun v k wr => ∃ (j : Nat) (t : Int), j ≤ n ∧ k = .int .i64 j ∧ v = .int .i64 t ∧ Hid (sumL (rs.take j) = t) ∧ Hid (Below w.heap.size w wr)) (fun _ k _ => (n - intOf k).toNat)
  case atStart => exact ⟨0, 0, by omega, rfl, rfl, hidb rfl, hidb (Below.refl _ _)⟩
  case round =>
    obtain ⟨j, t, hj, rfl, rfl, HT, HB⟩ := hrel
    by_cases hlt : j < n
    · obtain ⟨b, off, s, l, rfl, _, hx, hc1, hc2⟩ := (HS.out.below HB.out).at_ hlt
      have HN : Hid (sumL (rs.take (j + 1)) = t + l) := hidb (by rw [List.take_add_one, hx, sumL_append, HT.out]; exact congrArg (t + ·) (sumL_one (s, l)))
      have ht := HR.out j
      have ht2 := HR.out (j + 1)
      rw [HT.out] at ht
      rw [HN.out] at ht2
      have hi0 : (0 : Int) ≤ (j : Int) := by omega
      have hi1 : (j : Int) < (n : Int) := by omega
      have hsz := HB.out.size
      clear hx
      go_wp2
      go_roundw
      case rel => exact ⟨j + 1, t + l, by omega, by go_num, rfl, HN, hidb (HB.out.alloc hsz _)⟩
      case measure => simp [intOf]; omega
    · have E : Hid (sumL rs = t) := hidb (by rw [← HT.out, List.take_of_length_le (by rw [L1.out]; omega)])
      go_wp2
      go_ret
      exact ⟨by rw [E.out]; rfl, HB.out⟩
theorem code_rpages {w : World} {S : Nat → Prop} {p : Nat} {f : List Bool} (h : Fr w S p f) :
    Calls Try.prog 22 #[.pointer (some ⟨p, 0, none⟩)] w fun e w' => e = .returned (.int .i64 (fPages f : Nat)) ∧ Below w.heap.size w w' := by
  obtain ⟨A, n, c, ha, hn, hall⟩ := h.all_
  have := code_rpages_of _ A n c (fList f) w (hall w (Below.refl _ _)) ha.rn (by omega) (sumL_range (by have := ha.flen; omega))
  rwa [fPages_sum] at this
theorem code_rpages_nil (w : World) : Calls Try.prog 22 #[.pointer none] w fun e w' => e = .returned (.int .i64 0) ∧ Below w.heap.size w w' :=
  code_rpages_of (.pointer none) none 0 0 [] w (code_all_nil w) Rn.nil_ (by omega) (fun k => by rw [List.take_nil]; exact ⟨Int.le_refl _, by show (0 : Int) ≤ 1024; omega⟩)

end Go.Proofs.Ytbihliaeidpfaaa
