/- What New of layer 7 (heap) does. -/
import Derived.Test.YtcngcibiibchiaaGreatHeapMade
import Derived.Test.YtcngcibiibchiaaGreatRunsAdd
namespace Go.Proofs.YtcngcibiibchiaaGreat
open Go.RowKit Go.Maps
set_option linter.unusedVariables false

/-- New of too few pages, or of too many. -/
theorem code_hnew_no (pages : Int) (w : World) (hbad : pages < 4 ∨ 1024 < pages) :
    Calls Tryz.prog 5 #[.int .i64 pages] w fun e w' => e = .returned (.tuple #[.pointer none, .int .i64 1]) ∧ w = w' := by
  by_cases c : pages < 4
  · clear hbad
    go_enter Tryz.func5, Tryz.ntmps5
    go_wp2
    go_ret2
    exact ⟨rfl, rfl⟩
  · have c2 : 1024 < pages := by omega
    clear hbad
    go_enter Tryz.func5, Tryz.ntmps5
    go_wp2
    go_ret2
    exact ⟨rfl, rfl⟩
theorem rnew_yes {w0 : World} {A : Option Addr} {m d : Nat} {rs : List (Int × Int)} (hs : Rn w0 w0.heap.size A m rs) (hm : m ≤ 60000) (hr : ∀ r ∈ rs, in64 r.1 ∧ in64 r.2) {F : List Bool} (hP : fPut (List.replicate 1024 false) rs true = (F, 0)) :
    Calls Tryz.prog 22 #[.slice A m d] w0 fun e w' => ∃ p S, e = .returned (.tuple #[.pointer (some ⟨p, 0, none⟩), .int .i64 0]) ∧ Fr w' S p F ∧ (∀ b, S b → w0.heap.size ≤ b) ∧ Below w0.heap.size w0 w' := by
  refine (code_rnew A m d rs w0 hs hm hr F 0 hP).mono ?_
  rintro e w' ⟨hb, ⟨_, p, S, rfl, h1, h2⟩ | ⟨h, _⟩⟩
  · exact ⟨p, S, rfl, h1, h2, hb⟩
  · exact absurd rfl h
/-- A heap all of whose pages are free. -/
def NewHp (w : World) (pages : Int) (F : List Bool) (e : Ending) (w' : World) : Prop :=
  Below w.heap.size w w' ∧ ∃ p S, e = .returned (.tuple #[.pointer (some ⟨p, 0, none⟩), .int .i64 0]) ∧ Hp w' S p ⟨pages, F, [], 0⟩ ∧ ∀ b, S b → w.heap.size ≤ b
theorem code_hnew (pages : Int) (w : World) (h0 : 4 ≤ pages) (h1 : pages ≤ 1024) (F : List Bool) (hN : hNew pages = (⟨pages, F, [], 0⟩, 0)) :
    Calls Tryz.prog 5 #[.int .i64 pages] w (NewHp w pages F) := by
  obtain ⟨F', e1, hP, hOk⟩ := hNew_ok h0 h1
  obtain rfl : F' = F := by rw [e1] at hN; injection hN with hN _; injection hN
  clear e1 hN
  obtain ⟨n, rfl⟩ : ∃ n : Nat, pages = (n : Int) := ⟨pages.toNat, by omega⟩
  have cn : ∀ W A, Rn W W.heap.size (some ⟨A, 0, none⟩) 1 [(0, (n : Int))] → Calls Tryz.prog 22 #[.slice (some ⟨A, 0, none⟩) 1 1] W fun e w' => ∃ p S, e = .returned (.tuple #[.pointer (some ⟨p, 0, none⟩), .int .i64 0]) ∧ Fr w' S p F' ∧ (∀ b, S b → W.heap.size ≤ b) ∧ Below W.heap.size W w' := fun W A hR =>
    rnew_yes (d := 1) hR (by omega) (fun r hr => by obtain rfl := List.mem_singleton.1 hr; exact ⟨⟨by show _ ≤ (0 : Int); omega, by show (0 : Int) ≤ _; omega⟩, ⟨by show _ ≤ (n : Int); omega, by show (n : Int) ≤ _; omega⟩⟩) hP
  have cx : ∀ W, Calls Tryz.prog 23 #[.int .i64 (n : Int)] W (ResIx W n (xNew n)) := fun W => by
    have := code_xnew (n : Int) W ⟨by omega, by omega⟩
    rwa [show (max 0 (min (n : Int) 1024)).toNat = n by omega] at this
  have hx : xNew (n : Int) = List.replicate n 0 := by unfold xNew; rw [show (max 0 (min (n : Int) 1024)).toNat = n by omega]
  have HOK := hidb hOk
  have h2 : ¬ (n : Int) < 4 := by omega
  have h3 : ¬ 1024 < (n : Int) := by omega
  have hmk := @run_makeMap Tryz.prog
  clear hOk hP h0 h1
  go_enter Tryz.func5, Tryz.ntmps5
  go_wp2_with (first
    | (go_at_call 22; (with_reducible refine (cn _ _ (RnOne.plain_ _ _ _ _)).mono ?_); rintro e w1 ⟨fp, Sf, rfl, hF, hlow, hb1⟩)
    | (go_at_call 23; (with_reducible refine (cx _).mono ?_); rintro e w2 ⟨ip, ig, rfl, hix, hb2⟩))
  have hs1 := hb1.size
  have hs2 := hb2.size
  have hz0 : (w.alloc (.cells #[.int .i64 0, .int .i64 (n : Int)] 41)).heap.size = w.heap.size + 1 := by simp
  rw [hz0] at hs1 hlow
  have hmap : ((w2.alloc (.map #[] 0)).alloc (.cells #[.pointer (some ⟨ip, 0, none⟩), .pointer (some ⟨fp, 0, none⟩), .map (some w2.heap.size), .int .i64 0] 65)).ownsMap Tryz.prog 3 spanR w2.heap.size 0 (.map []) :=
    (World.ownsMap_made w2 Tryz.prog 3 spanR).alloc _
  obtain ⟨W, hW⟩ : ∃ W, (w2.alloc (.map #[] 0)).alloc (.cells #[.pointer (some ⟨ip, 0, none⟩), .pointer (some ⟨fp, 0, none⟩), .map (some w2.heap.size), .int .i64 0] 65) = W := ⟨_, rfl⟩
  have hbW : Below w2.heap.size w2 W := by rw [← hW]; exact ((Below.refl _ _).alloc (Nat.le_refl _) _).alloc (by simp) _
  have hzW : W.heap.size = w2.heap.size + 2 := by rw [← hW]; simp
  have hcell : W.heap[w2.heap.size + 1]? = some (.cells #[.pointer (some ⟨ip, 0, none⟩), .pointer (some ⟨fp, 0, none⟩), .map (some w2.heap.size), .int .i64 0] 65 (0, 0)) := by
    rw [← hW]
    show ((w2.heap.push _).push _)[w2.heap.size + 1]? = _
    rw [show w2.heap.size + 1 = (w2.heap.push (.map #[] 0)).size by simp, Array.getElem?_push_size]
  rw [hW] at hmap ⊢
  rw [hx] at hix
  have hp1 : w1.heap.size ≤ ip := hix.ge
  have hp2 : w1.heap.size ≤ ig := hix.geg
  have hp3 := hix.ltp
  have hp4 := hix.lt
  have hlt1 := hF.lt
  have hB : Below w.heap.size w W := ((Below.refl _ _).alloc (Nat.le_refl _) _).trans ((hb1.mono (by omega)).trans ((hb2.mono (by omega)).trans (hbW.mono (by omega))))
  clear hW
  go_ret2
  obtain ⟨a0, a1, a2, a3, _⟩ := cells4 hcell
  refine ⟨hB, w2.heap.size + 1, fun b => w.heap.size ≤ b ∧ b < W.heap.size, rfl, ⟨ip, ig, fp, w2.heap.size, n, 0, List.replicate n 0, .map [], Sf, ⟨⟨a0, a1, a2, a3, fun j => by simp [World.frozen?, hcell], (hix.more (Nat.zero_le _)).below hbW (Nat.le_refl _), hmap⟩, ⟨mis_nil, paint_new n F' 0, HOK.out, Int.le_refl _, by show (0 : Int) ≤ 1000000000; omega⟩⟩, ?_, ⟨⟨by omega, by omega⟩, ⟨by omega, by omega⟩, ⟨by omega, by omega⟩, ⟨by omega, by omega⟩⟩, fun b hb => ⟨by have := hlow b hb; omega, by have := hlt1 b hb; omega⟩, fun b hb => hb.2, ⟨fun c => ?_, fun c => ?_, fun c => ?_, fun c => ?_⟩, ?_⟩, fun b hb => hb.1⟩
  · exact (hF.below hb2).below hbW
  · have := hlt1 _ c; omega
  · have := hlt1 _ c; omega
  · have := hlt1 _ c; omega
  · have := hlt1 _ c; omega
  · exact ⟨by omega, by omega, by omega, by omega, by omega⟩

end Go.Proofs.YtcngcibiibchiaaGreat
