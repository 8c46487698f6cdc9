/- What Add and New do. -/
import Derived.Test.YtcngcibiibchiaaGreatRunsObj
import Derived.Test.YtcngcibiibchiaaGreatRunsConcat
import Derived.Test.YtcngcibiibchiaaGreatRunsSort
import Derived.Test.YtcngcibiibchiaaGreatRunsJoin
namespace Go.Proofs.YtcngcibiibchiaaGreat
open Go.RowKit
set_option linter.unusedVariables false

/-- What became of free runs, and of all else; an error's number. -/
def DidFr (w : World) (S : Nat → Prop) (p : Nat) (f : List Bool) (no : Int) (e : Ending) (w' : World) : Prop :=
  e = .returned (.int .i64 no) ∧ Fr w' (more S w w') p f ∧ Kept S w w'
theorem DidFr.same {w w' : World} {S : Nat → Prop} {p : Nat} {f : List Bool} {no : Int} (h : Fr w S p f) (hb : Below w.heap.size w w') : DidFr w S p f no (.returned (.int .i64 no)) w' :=
  ⟨rfl, (h.below hb).more_ hb.size, Kept.of_below hb S⟩

/-- A row that lies in new blocks is stored. -/
theorem DidFr.stored {w w5 : World} {S : Nat → Prop} {p k c5 : Nat} {f g : List Bool} {A5 : Option Addr} (h : Fr w S p f) (hK : Kept S w w5) (hcell : ∃ u, w5.cell? ⟨p, 0, none⟩ = some u) (hfree : w5.frozen? ⟨p, 0, none⟩ = false)
    (hown : w5.ownsRow 0 41 2 (.slice A5 k c5) k (rcells (fList g))) (hnew : ∀ b, (Value.slice A5 k c5).ownBlock = some b → (S b ∨ w.heap.size ≤ b) ∧ b ≠ p) (hk : (fList g).length = k) (hg : g.length = 1024) :
    DidFr w S p g 0 (.returned (.int .i64 0)) (w5.setCell ⟨p, 0, none⟩ (.slice A5 k c5)) := by
  have hp := h.ltp
  obtain ⟨A, n, c, fa, hSp, _, hSl⟩ := h
  obtain ⟨u, hu⟩ := hcell
  have hz := hK.size
  refine ⟨rfl, ⟨A5, k, c5, ⟨World.cell?_setCell_same _ _ _ (by rw [hu]), ?_, ?_, hk, fun b hb => (hnew b hb).2, hg⟩, ⟨Or.inl hSp, by simp; omega⟩, fun b hb => ⟨(hnew b hb).1, ?_⟩, fun b hb => hb.2⟩, hK.set (Or.inl hSp) _⟩
  · simpa [go_sem] using hfree
  · exact own_kept hown ((Kept.refl (fun b => b = p) w5).set (Or.inl rfl) _) (fun b hb => (hnew b hb).2)
  · have := (hown.lt b hb).2
    simpa using this

set_option maxRecDepth 100000 in
set_option maxHeartbeats 4000000 in
theorem code_radd {w : World} {S : Nat → Prop} {p : Nat} {f : List Bool} (h : Fr w S p f) (A2 : Option Addr) (m d : Nat) (rs : List (Int × Int)) (hs : Rn w w.heap.size A2 m rs) (hm : m ≤ 60000) (hr : ∀ r ∈ rs, in64 r.1 ∧ in64 r.2) :
    Calls Tryz.prog 29 #[.pointer (some ⟨p, 0, none⟩), .slice A2 m d] w (DidFr w S p (fPut f rs true).1 (fPut f rs true).2) := by
  have l2 : rs.length = m := hs.1
  have cm := code_may A2 m d rs w hs (by omega) hr
  cases ha : rs.all fMay with
  | false =>
    rw [fPut_bad ha]
    rw [ha] at cm
    have H := hidb h
    clear h hs hr ha
    go_enter Tryz.func29, Tryz.ntmps29
    go_wp2_with (first | (go_at_call 47; (with_reducible refine cm.mono ?_); rintro e w1 ⟨rfl, hb1⟩))
    go_ret
    exact DidFr.same H.out hb1
  | true =>
    rw [ha] at cm
    have hall : ∀ r ∈ rs, fMay r = true := List.all_eq_true.1 ha
    by_cases h0 : m = 0
    · subst h0
      obtain rfl : rs = [] := List.eq_nil_of_length_eq_zero l2
      have e0 : fPut f [] true = (f, 0) := rfl
      rw [e0]
      have H := hidb h
      clear h hs hr ha hall e0
      go_enter Tryz.func29, Tryz.ntmps29
      go_wp2_with (first | (go_at_call 47; (with_reducible refine cm.mono ?_); rintro e w1 ⟨rfl, hb1⟩))
      go_ret
      exact DidFr.same H.out hb1
    · obtain ⟨A, n, c, fa, hSp, hSr, hSl⟩ := h
      have hle := fa.le
      have hfl := fa.flen
      have hnm : fList f ++ rs ≠ [] := fun e => h0 (by rw [← l2]; have := List.append_eq_nil_iff.1 e; rw [this.2]; rfl)
      have hlen : (fList f ++ rs).length = n + m := by rw [List.length_append, fa.len, l2]
      have hmz : ((m : Int) == 0) = false := by simp; omega
      -- the two rows, joined
      have cc : ∀ W b, Below w.heap.size w W → b = W.heap.size → Calls Tryz.prog 48 #[.slice (some ⟨b, 0, none⟩) 2 2] (W.alloc (.cells #[.slice A n c, .slice A2 m d] 54)) fun e w' => ∃ A3 c3, e = .returned (.slice A3 (n + m) c3) ∧ w'.ownsRow W.heap.size 41 2 (.slice A3 (n + m) c3) (n + m) (rcells (fList f ++ rs)) ∧ Below w.heap.size w w' := fun W b hb e => by
        subst e
        have hz := hb.size
        refine (code_concat W.heap.size A A2 n c m d (fList f) rs (W.alloc _) (by simp) (by simp) (by simp) (((fa.rn.below hb).more hb.size).alloc (Nat.le_refl _) _ |>.more (by simp)) (((hs.below hb).more hb.size).alloc (Nat.le_refl _) _ |>.more (by simp)) (by omega) (by omega)).mono ?_
        rintro e w' ⟨A3, c3, rfl, h1, h2⟩
        rw [hlen] at h1 ⊢
        exact ⟨A3, c3, rfl, own_lower h1 (by simp), (hb.alloc hz _).trans (h2.mono (by simp; omega))⟩
      have cs : ∀ W B A3 c3, W.ownsRow B 41 2 (.slice A3 (n + m) c3) (n + m) (rcells (fList f ++ rs)) → Calls Tryz.prog 49 #[.slice A3 (n + m) c3, .func (.func 50) #[] #[]] W (Sorted W B A3 (n + m) c3 (fList f ++ rs)) := fun W B A3 c3 ho => code_sort A3 (n + m) c3 (fList f ++ rs) W B ho hlen (by omega) (by omega)
      have HMAY : Hid (∀ ds : List (Int × Int), ds.Perm (fList f ++ rs) → ∀ r ∈ ds, 0 ≤ r.1 ∧ 1 ≤ r.2 ∧ r.1 + r.2 ≤ 1024) := hidb (fun ds hp r hr => by
        rcases List.mem_append.1 (hp.mem_iff.1 hr) with h | h
        · exact norm_mem (fList_norm f (by omega)) r h
        · exact (fMay_iff r).1 (hall r h))
      have HADD : Hid (∀ ds : List (Int × Int), ds.Perm (fList f ++ rs) → (ds.Pairwise fun a b => a.1 ≤ b.1) → (shareB ds = true → fPut f rs true = (f, 9)) ∧ (shareB ds = false → ∃ g, fPut f rs true = (g, 0) ∧ fList g = joinedL ds)) := hidb (fun ds hp hw => add_all hfl hall hp hw)
      have HFR : Hid (Fr w S p f) := hidb ⟨A, n, c, fa, hSp, hSr, hSl⟩
      have HFA := hidb fa
      have HLEN := hidb hlen
      obtain ⟨P, hP⟩ : ∃ P, fPut f rs true = P := ⟨_, rfl⟩
      rw [hP] at HADD ⊢
      have HP := hidb hP
      have HSP := hidb hSp
      have HC : Hid (∀ W, Below w.heap.size w W → W.cell? ⟨p, 0, none⟩ = some (.slice A n c) ∧ W.frozen? ⟨p, 0, none⟩ = false) := hidb (fun W hb => ⟨(hb.cell (p := ⟨p, 0, none⟩) fa.ltp).trans fa.cell, (hb.frozen (p := ⟨p, 0, none⟩) fa.ltp).trans fa.free⟩)
      clear hs hr ha hall fa hSp hSr hSl hnm l2 hP hlen
      go_enter Tryz.func29, Tryz.ntmps29
      go_wp2_with (first
        | (go_at_call 47; (with_reducible refine cm.mono ?_); rintro e w1 ⟨rfl, hb1⟩; obtain ⟨y0, y1⟩ := HC.out _ hb1)
        | (go_at_call 48; (with_reducible refine (cc _ _ hb1 rfl).mono ?_); rintro e w2 ⟨A3, c3, rfl, hown2, hb2⟩))
      have hz2 := hb2.size
      refine (cs _ _ _ _ hown2).mono ?_
      rintro e w3 ⟨rfl, ds, hp3, hw3, hown3, hg3⟩
      have hdl : ds.length = n + m := by rw [hp3.length_eq, HLEN.out]
      have hb3 : Below w.heap.size w w3 := hb2.grown hg3 hz2 (fun k hk => by have := (hown2.lt k hk).1; have := hb1.size; omega)
      have hmd := HMAY.out ds hp3
      obtain ⟨a1, a2⟩ := HADD.out ds hp3 hw3
      have rn3 : Rn w3 w3.heap.size A3 (n + m) ds := Rn.of_own hown3 hdl
      have csh := code_share A3 (n + m) c3 ds w3 rn3 (by omega) (fun r hr => by have := hmd r hr; omega)
      have RN := hidb rn3
      have HMD := hidb hmd
      have HB3 := hidb hb3
      have HAP : Hid (shareB ds = false → ds.Pairwise fun a b => a.1 + a.2 ≤ b.1) := hidb (fun e => apart_of (fun r hr => (hmd r hr).2.1) e)
      clear hp3 hw3 hown3 hg3 hdl hmd rn3 hb3 hown2 hb2 cs cc
      cases hsb : shareB ds with
      | true =>
        obtain rfl := a1 hsb
        rw [hsb] at csh
        clear a1 a2 hsb
        go_wp2_with (first | (go_at_call 51; (with_reducible refine csh.mono ?_); rintro e w4 ⟨rfl, hb4⟩))
        go_ret
        exact DidFr.same HFR.out (HB3.out.trans (hb4.mono HB3.out.size))
      | false =>
        obtain ⟨g, e1, e2⟩ := a2 hsb
        have hglen : (fPut f rs true).1.length = f.length := fPut_length f rs true
        rw [HP.out, e1] at hglen
        obtain rfl := e1
        rw [hsb] at csh
        have hap := HAP.out hsb
        have cj : ∀ W, Below w3.heap.size w3 W → Calls Tryz.prog 52 #[.slice A3 (n + m) c3] W (OwnRuns W (joinedL ds)) := fun W hb => code_joined A3 (n + m) c3 ds W ((RN.out.below hb).more hb.size) (by omega) HMD.out hap
        rw [← e2] at cj
        have HGL : Hid (g.length = 1024) := hidb (by have := HFA.out.flen; simp only at hglen; omega)
        clear a1 a2 hsb e2 hap hglen
        go_wp2_with (first
          | (go_at_call 51; (with_reducible refine csh.mono ?_); rintro e w4 ⟨rfl, hb4⟩)
          | (go_at_call 52; (with_reducible refine (cj _ hb4).mono ?_); rintro e w5 ⟨A5, c5, rfl, hown5, hb5⟩; have hb6 := HB3.out.trans ((hb4.trans (hb5.mono hb4.size)).mono HB3.out.size); obtain ⟨z0, z1⟩ := HC.out _ hb6))
        go_ret
        have hw4 : w.heap.size ≤ w4.heap.size := by have := HB3.out.size; have := hb4.size; omega
        exact DidFr.stored HFR.out (Kept.of_below hb6 S) ⟨_, z0⟩ z1 (own_lower hown5 (by omega)) (fun b hb => by
          have := (hown5.lt b hb).1
          have := HFA.out.ltp
          exact ⟨Or.inr (by omega), by omega⟩) rfl HGL.out

/-- New. -/
theorem f0_list : fList (List.replicate 1024 false) = [] := by
  refine fList_eq _ (by rw [List.length_replicate]; omega) [] trivial fun p => ⟨fun h => absurd h (cov_nil _), fun h => ?_⟩
  rw [List.getD_eq_getElem?_getD, List.getElem?_replicate] at h
  split at h <;> cases h
def ResFr (w : World) (f : List Bool) (no : Int) (e : Ending) (w' : World) : Prop :=
  Below w.heap.size w w' ∧ ((no = 0 ∧ ∃ p S, e = .returned (.tuple #[.pointer (some ⟨p, 0, none⟩), .int .i64 0]) ∧ Fr w' S p f ∧ ∀ b, S b → w.heap.size ≤ b) ∨ (no ≠ 0 ∧ e = .returned (.tuple #[.pointer none, .int .i64 no])))
set_option maxRecDepth 100000 in
theorem code_rnew (A2 : Option Addr) (m d : Nat) (rs : List (Int × Int)) (w : World) (hs : Rn w w.heap.size A2 m rs) (hm : m ≤ 60000) (hr : ∀ r ∈ rs, in64 r.1 ∧ in64 r.2) (F : List Bool) (no : Int) (hP : fPut (List.replicate 1024 false) rs true = (F, no)) :
    Calls Tryz.prog 22 #[.slice A2 m d] w (ResFr w F no) := by
  obtain ⟨f0, hf0⟩ : ∃ f0, List.replicate 1024 false = f0 := ⟨_, rfl⟩
  have hl0 : f0.length = 1024 := by rw [← hf0, List.length_replicate]
  have he0 : fList f0 = [] := by rw [← hf0]; exact f0_list
  rw [hf0] at hP
  have hfr : Fr (w.alloc (.cells #[.slice none 0 0] 85)) (fun b => b = w.heap.size) w.heap.size f0 :=
    ⟨none, 0, 0, ⟨by simp, by simp [go_sem], by rw [he0]; exact World.ownsRow_nil _ _ _ _, by rw [he0]; rfl, (fun k hk => by cases hk), hl0⟩, rfl, (fun k hk => by cases hk), (fun b hb => by have hb' : b = w.heap.size := hb; subst hb'; simp)⟩
  have ca := code_radd hfr A2 m d rs ((hs.alloc (Nat.le_refl _) _).more (by simp)) hm hr
  rw [hP] at ca
  have hno : no = 0 ∨ (no = 2 ∨ no = 9) := by
    unfold fPut at hP
    split at hP
    · unfold freeEnd at hP
      split at hP <;> (injection hP with _ h2; omega)
    · injection hP with _ h2; omega
  have FIN : Hid (∀ e w', DidFr (w.alloc (.cells #[.slice none 0 0] 85)) (fun b => b = w.heap.size) w.heap.size F no e w' → Below w.heap.size w w' ∧ Fr w' (more (fun b => b = w.heap.size) (w.alloc (.cells #[.slice none 0 0] 85)) w') w.heap.size F ∧ ∀ b, more (fun b => b = w.heap.size) (w.alloc (.cells #[.slice none 0 0] 85)) w' b → w.heap.size ≤ b) := hidb (fun e w' ⟨_, h2, h3⟩ =>
    ⟨((Below.refl _ _).alloc (Nat.le_refl _) _).trans (h3.below (by simp) (fun b hb => by omega)), h2, more_low (by simp) (fun b hb => by omega)⟩)
  clear hfr hP hs hr hf0 hl0 he0
  rcases hno with rfl | hno
  · go_enter Tryz.func22, Tryz.ntmps22
    go_wp2_with (first | (go_at_call 29; (with_reducible refine ca.mono ?_); rintro e w1 ⟨rfl, h2, h3⟩))
    go_ret2
    obtain ⟨k1, k2, k3⟩ := FIN.out _ w1 ⟨rfl, h2, h3⟩
    exact ⟨k1, Or.inl ⟨rfl, _, _, rfl, k2, k3⟩⟩
  · have hne : (no != 0) = true := by simp; omega
    have HNO : Hid (no ≠ 0) := hidb (by omega)
    clear hno
    go_enter Tryz.func22, Tryz.ntmps22
    go_wp2_with (first | (go_at_call 29; (with_reducible refine ca.mono ?_); rintro e w1 ⟨rfl, h2, h3⟩))
    go_ret2
    obtain ⟨k1, k2, k3⟩ := FIN.out _ w1 ⟨rfl, h2, h3⟩
    exact ⟨k1, Or.inr ⟨HNO.out, rfl⟩⟩
/-- Add to nil free runs. -/
theorem code_radd_nil (A2 : Option Addr) (m d : Nat) (rs : List (Int × Int)) (w : World) (hs : Rn w w.heap.size A2 m rs) (hm : m ≤ 60000) (hr : ∀ r ∈ rs, in64 r.1 ∧ in64 r.2) :
    Calls Tryz.prog 29 #[.pointer none, .slice A2 m d] w fun e w' => e = .returned (.int .i64 (if rs.all fMay then (if m = 0 then 0 else 9) else 2)) ∧ Below w.heap.size w w' := by
  have cm := code_may A2 m d rs w hs (by omega) hr
  cases ha : rs.all fMay with
  | false =>
    rw [ha] at cm
    clear hs hr ha
    go_enter Tryz.func29, Tryz.ntmps29
    go_wp2_with (first | (go_at_call 47; (with_reducible refine cm.mono ?_); rintro e w1 ⟨rfl, hb1⟩))
    go_ret
    exact ⟨rfl, hb1⟩
  | true =>
    rw [ha] at cm
    by_cases h0 : m = 0
    · subst h0
      clear hs hr ha
      go_enter Tryz.func29, Tryz.ntmps29
      go_wp2_with (first | (go_at_call 47; (with_reducible refine cm.mono ?_); rintro e w1 ⟨rfl, hb1⟩))
      go_ret
      exact ⟨rfl, hb1⟩
    · have hmz : ((m : Int) == 0) = false := by simp; omega
      rw [if_neg h0]
      clear hs hr ha h0
      go_enter Tryz.func29, Tryz.ntmps29
      go_wp2_with (first | (go_at_call 47; (with_reducible refine cm.mono ?_); rintro e w1 ⟨rfl, hb1⟩))
      go_ret
      exact ⟨rfl, hb1⟩

end Go.Proofs.YtcngcibiibchiaaGreat
