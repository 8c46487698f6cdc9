import Derived.Test.YtlcdgmjinhbncaaGreatRRunsBase
import Derived.Test.YtlcdgmjinhbncaaGreatRShelf
namespace Go.Proofs.YtlcdgmjinhbncaaGreat
open Go.RowKit Go.Shelf Go.Lib Go.Sort
set_option linter.unusedVariables false
def encR (x : Int × Int) : List Value := [.int .i64 x.1,.int .i64 x.2]
theorem xQ5 (d : Array (Int × Int)) : flatK encR 2 d = (rcells d.toList).toArray := by
 apply Array.ext_getElem?
 intro t
 by_cases ht : t < d.size * 2
 ·have hj : t / 2 < d.size := by omega
  have h := xj4 d.toList (t / 2) d[t / 2]! (by rw [getElem!_pos d _ hj];simp [hj])
  have e1 : (flatK encR 2 d)[t]? = some ((encR d[t / 2]!)[t % 2]!) := by
   rw [Array.getElem?_eq_getElem (by simp;omega)]
   simp [flatK]
  rw [e1]
  have hm : t % 2 = 0 \/ t % 2 = 1 := by omega
  rcases hm with hm | hm
  ·rw [hm,List.getElem?_toArray,show t = t / 2 * 2 by omega,show t / 2 * 2 / 2 = t / 2 by omega,h.1];rfl
  ·rw [hm,List.getElem?_toArray,show t = t / 2 * 2 + 1 by omega,show (t / 2 * 2 + 1) / 2 = t / 2 by omega,h.2];rfl
 ·rw [Array.getElem?_eq_none (by simp;omega),Array.getElem?_eq_none (by simp [xq6];omega)]
theorem holds_rw {w : World} {g : Nat} {e : TypeId} {L : List Value} {n : Nat} (h : Rw w g e L) (d : Array (Int × Int)) (hd : L.take (d.size * 2) = rcells d.toList) : HoldsK encR 2 w g 0 d := by
 unfold HoldsK Holds
 rw [xQ5]
 intro j hj
 have hj' : j < (rcells d.toList).length := by simpa using hj
 have hl : j < d.size * 2 := by rw [xq6] at hj';simpa using hj'
 refine ⟨?_,h.free _⟩
 rw [Nat.zero_add,h.cell,getElem!_pos _ _ (by simpa using hj'),List.getElem_toArray]
 have h2 : (L.take (d.size * 2))[j]? = L[j]? := by rw [List.getElem?_take,if_pos hl]
 rw [<- h2,hd,List.getElem?_eq_getElem hj'];rfl
theorem put_rw {w : World} {g : Nat} {e : TypeId} {L : List Value} (h : Rw w g e L) (m : Nat) (d : Array (Int × Int)) (os : Array Obj) (hd : d.size * 2 <= L.length) :
  Rw (sortWorldK encR 2 w g 0 m d os) g e (rcells d.toList ++ L.drop (d.size * 2)) /\ w.grownBy (sortWorldK encR 2 w g 0 m d os) (some g) := by
 have hlt := h.lt
 unfold Rw at h
 unfold sortWorldK putRowK putRow
 rw [xQ5]
 have hsz : (mapBlock (Sort.ahead w m) g (putCells id 0 (rcells d.toList).toArray)).heap.size = w.heap.size := by simp [mapBlock,Sort.ahead]
 constructor
 ·unfold Rw
  rw [heap_grow_old _ _ (by rw [hsz];exact hlt)]
  show ((w.heap.modify g (onCells (putCells id 0 (rcells d.toList).toArray))))[g]? = _
  rw [Array.getElem?_modify,if_pos rfl,h]
  show some (Obj.cells _ e (0,0)) = _
  congr 2
  unfold putCells
  apply Array.ext_getElem?
  intro k
  rw [Array.getElem?_mapIdx]
  have hrl : (rcells d.toList).length = d.size * 2 := by rw [xq6];simp
  by_cases hk : k < d.size * 2
  ·rw [List.getElem?_toArray,List.getElem?_toArray,List.getElem?_append_left (by omega),List.getElem?_eq_getElem (by omega),List.getElem?_eq_getElem (by omega)]
   simp only [Option.map_some,Nat.sub_zero]
   rw [if_pos (by simp;omega),getElem!_pos _ _ (by simp;omega),List.getElem_toArray];rfl
  ·rw [List.getElem?_toArray,List.getElem?_toArray,List.getElem?_append_right (by omega),List.getElem?_drop,hrl,show d.size * 2 + (k - d.size * 2) = k by omega]
   cases L[k]? with
   | none => rfl
   | some u =>
    simp only [Option.map_some]
    rw [if_neg (by simp;omega)]
 ·refine ⟨rfl,rfl,rfl,?_,fun k hk hr => ?_⟩
  ·have : (grow (mapBlock (Sort.ahead w m) g (putCells id 0 (rcells d.toList).toArray)) os).heap.size = w.heap.size + os.size := by simp [grow,hsz]
   omega
  ·rw [heap_grow_old _ _ (by rw [hsz];exact hk)]
   show ((w.heap.modify g (onCells (putCells id 0 (rcells d.toList).toArray))))[k]? = _
   rw [Array.getElem?_modify,if_neg (fun e => hr (by rw [e]))]
set_option maxHeartbeats 1000000 in
theorem code_cmp (x y : Int × Int) (W : World) : Calls Tryz.prog 246 #[.agg #[.int .i64 x.1,.int .i64 x.2],.agg #[.int .i64 y.1,.int .i64 y.2]] W fun e w' => e = .returned (.int .i64 (Lib.compareInt x.1 y.1)) /\ ∃ q os',w' = grow (W.drewN q) os' := by
 have hcon := fun W' => AnyG.cmp_Compare_int Tryz.cmpInt x.1 y.1 W'
 change ∀ W',Calls Tryz.prog 89 _ _ _ at hcon
 generalize Lib.compareInt x.1 y.1 = r at hcon ⊢
 go_enter Tryz.func246,Tryz.ntmps246
 go_wp2_with (go_at_call 89;refine (hcon _).mono ?_;rintro e w' ⟨rfl,rfl⟩)
 go_ret
 exact ⟨rfl,0,_,by rw [alloc_eq_grow,alloc_eq_grow,grow_grow];rfl⟩
theorem xw8 (x y : Int × Int) : ltOf (fun x y : Int × Int => Lib.compareInt x.1 y.1) x y = decide (x.1 < y.1) := by
 unfold ltOf Lib.compareInt
 by_cases h1 : x.1 < y.1
 ·simp [h1]
 ·by_cases h2 : y.1 < x.1 <;> simp [h1,h2]
theorem yjz : SWO (ltOf fun x y : Int × Int => Lib.compareInt x.1 y.1) where
 irrefl x := by rw [xw8];simp
 trans x y z h1 h2 := by rw [xw8] at *;simp at *;omega
 ntrans x y z h1 h2 := by rw [xw8] at *;simp at *;omega
def Sorted (w : World) (base : Nat) (A : Option Addr) (n c : Nat) (rs : List (Int × Int)) (e : Ending) (w' : World) : Prop :=
 e = .returned (.tuple #[]) /\ ∃ ds : List (Int × Int),ds.Perm rs /\ (ds.Pairwise fun a b => a.1 <= b.1) /\ w'.ownsRow base 47 2 (.slice A n c) n (rcells ds) /\ w.grownBy w' (Value.slice A n c).ownBlock
theorem yk0 (A : Option Addr) (n c : Nat) (rs : List (Int × Int)) (w : World) (base : Nat) (hown : w.ownsRow base 47 2 (.slice A n c) n (rcells rs)) (hl : rs.length = n) (h0 : ¬ n = 0) (hn : n <= 4611686018427387903) :
  Calls Tryz.prog 245 #[.slice A n c,.func (.func 246) #[] #[]] w (Sorted w base A n c rs) := by
 obtain ⟨g,rfl⟩ : ∃ g,A = some ⟨g,0,none⟩ := by
  rcases hown.2 with ⟨_,h⟩ | ⟨g,cap,cur,h,_⟩
  ·exact absurd h h0
  ·injection h with e1;exact ⟨g,e1⟩
 obtain ⟨L,hL,hbg,hnc,hcm,hLl,hxs⟩ := xqj hown
 have eg : ∀ args w,(callFunc 246 args).run Tryz.prog w = .ok (.enter 246 args) w := enters_of Tryz.func246 (by kernel_rfl) rfl
 have hd : rs.toArray.size = n := by simpa using hl
 have hH : HoldsK encR 2 w g 0 rs.toArray := holds_rw (n := n) hL rs.toArray (by rw [hd,<- hxs])
 have h := AnyQ.slices_SortFunc Tryz.sortRuns 2 Tryz.isAgg47 Tryz.sizeOf47 encR (fun _ => rfl) (fun x v hv => by simp [encR] at hv;rcases hv with rfl | rfl <;> rfl) (fun x y => Lib.compareInt x.1 y.1) yjz 246 #[] g 0 c rs.toArray w eg
  (fun _ _ _ _ x y => code_cmp x y _) hH hL.lt (by omega)
 rw [hd] at h
 change Calls Tryz.prog 245 _ _ _ at h
 refine h.mono ?_
 rintro e w' ⟨he,d',m,os,⟨hp1,_,hp3⟩,hs,rfl⟩
 have hdn : d'.size = n := by rw [hp1,hd]
 obtain ⟨r1,r2⟩ := put_rw hL m d' os (by rw [hdn,hLl];exact Nat.mul_le_mul_right 2 hnc)
 refine ⟨he,d'.toList,?_,?_,?_,r2⟩
 ·have e1 : d'.extract 0 n = d' := by rw [<- hdn];exact Array.extract_size
  have e2 : rs.toArray.extract 0 n = rs.toArray := by rw [<- hd];exact Array.extract_size
  rw [e1,e2] at hp3
  exact hp3
 ·rw [List.pairwise_iff_getElem]
  intro i j hi hj hij
  have hi' : i < d'.size := by simpa using hi
  have hj' : j < d'.size := by simpa using hj
  have := hs i j (Nat.zero_le _) hij (by omega)
  rw [getElem!_pos d' j hj',getElem!_pos d' i hi',xw8] at this
  have := of_decide_eq_false this
  simp only [Array.getElem_toList]
  omega
 ·have h2 := xq8 (base := base) (s := 2) (n := n) (c := c) r1 hbg hnc hcm (by simp [xq6,hdn,hLl];omega)
  rw [List.take_left' (by rw [xq6];simp [hdn])] at h2
  exact h2
end Go.Proofs.YtlcdgmjinhbncaaGreat
namespace Go.Proofs.YtlcdgmjinhbncaaGreat
open Go.RowKit
set_option linter.unusedVariables false
def DidFr (w : World) (S : Nat -> Prop) (p : Nat) (f : List Bool) (no : Int) (e : Ending) (w' : World) : Prop :=
 e = .returned (.int .i64 no) /\ Fr w' (more S w w') p f /\ Kept S w w'
theorem DidFr.same {w w' : World} {S : Nat -> Prop} {p : Nat} {f : List Bool} {no : Int} (h : Fr w S p f) (hb : Below w.heap.size w w') : DidFr w S p f no (.returned (.int .i64 no)) w' :=
 ⟨rfl,(h.below hb).more_ hb.size,Kept.of_below hb S⟩
theorem DidFr.stored {w w5 : World} {S : Nat -> Prop} {p k c5 : Nat} {f g : List Bool} {A5 : Option Addr} (h : Fr w S p f) (hK : Kept S w w5) (hcell : ∃ u,w5.cell? ⟨p,0,none⟩ = some u) (hfree : w5.frozen? ⟨p,0,none⟩ = false)
  (hown : w5.ownsRow 0 47 2 (.slice A5 k c5) k (rcells (fList g))) (hnew : ∀ b,(Value.slice A5 k c5).ownBlock = some b -> (S b \/ w.heap.size <= b) /\ b ≠ p) (hk : (fList g).length = k) (hg : g.length = 1024) :
  DidFr w S p g 0 (.returned (.int .i64 0)) (w5.setCell ⟨p,0,none⟩ (.slice A5 k c5)) := by
 have hp := h.ltp
 obtain ⟨A,n,c,fa,hSp,_,hSl⟩ := h
 obtain ⟨u,hu⟩ := hcell
 have hz := hK.size
 refine ⟨rfl,⟨A5,k,c5,⟨World.cell?_setCell_same _ _ _ (by rw [hu]),?_,?_,hk,fun b hb => (hnew b hb).2,hg⟩,⟨Or.inl hSp,by simp;omega⟩,fun b hb => ⟨(hnew b hb).1,?_⟩,fun b hb => hb.2⟩,hK.set (Or.inl hSp) _⟩
 ·simpa [go_sem] using hfree
 ·exact xjm hown ((Kept.refl (fun b => b = p) w5).set (Or.inl rfl) _) (fun b hb => (hnew b hb).2)
 ·have := (hown.lt b hb).2
  simpa using this
set_option maxRecDepth 100000 in
set_option maxHeartbeats 4000000 in
theorem xK7 {w : World} {S : Nat -> Prop} {p : Nat} {f : List Bool} (h : Fr w S p f) (A2 : Option Addr) (m d : Nat) (rs : List (Int × Int)) (hs : Rn w w.heap.size A2 m rs) (hm : m <= 60000) (hr : ∀ r ∈ rs,in64 r.1 /\ in64 r.2) :
  Calls Tryz.prog 196 #[.pointer (some ⟨p,0,none⟩),.slice A2 m d] w (DidFr w S p (fPut f rs true).1 (fPut f rs true).2) := by
 have l2 : rs.length = m := hs.1
 have cm := yq5 A2 m d rs w hs (by omega) hr
 cases ha : rs.all fMay with
 | false =>
  rw [xWy ha]
  rw [ha] at cm
  have H := hidb h
  clear h hs hr ha
  go_enter Tryz.func196,Tryz.ntmps196
  go_wp2_with (first | (go_at_call 243;(with_reducible refine cm.mono ?_);rintro e w1 ⟨rfl,hb1⟩))
  go_ret
  exact DidFr.same H.out hb1
 | true =>
  rw [ha] at cm
  have hall : ∀ r ∈ rs,fMay r = true := List.all_eq_true.1 ha
  by_cases h0 : m = 0
  ·subst h0
   obtain rfl : rs = [] := List.eq_nil_of_length_eq_zero l2
   have e0 : fPut f [] true = (f,0) := rfl
   rw [e0]
   have H := hidb h
   clear h hs hr ha hall e0
   go_enter Tryz.func196,Tryz.ntmps196
   go_wp2_with (first | (go_at_call 243;(with_reducible refine cm.mono ?_);rintro e w1 ⟨rfl,hb1⟩))
   go_ret
   exact DidFr.same H.out hb1
  ·obtain ⟨A,n,c,fa,hSp,hSr,hSl⟩ := h
   have hle := fa.le
   have hfl := fa.flen
   have hnm : fList f ++ rs ≠ [] := fun e => h0 (by rw [<- l2];have := List.append_eq_nil_iff.1 e;rw [this.2];rfl)
   have hlen : (fList f ++ rs).length = n + m := by rw [List.length_append,fa.len,l2]
   have hmz : ((m : Int) == 0) = false := by simp;omega
   have cc : ∀ W b,Below w.heap.size w W -> b = W.heap.size -> Calls Tryz.prog 244 #[.slice (some ⟨b,0,none⟩) 2 2] (W.alloc (.cells #[.slice A n c,.slice A2 m d] 57)) fun e w' => ∃ A3 c3,e = .returned (.slice A3 (n + m) c3) /\ w'.ownsRow W.heap.size 47 2 (.slice A3 (n + m) c3) (n + m) (rcells (fList f ++ rs)) /\ Below w.heap.size w w' := fun W b hb e => by
    subst e
    have hz := hb.size
    refine (xVr W.heap.size A A2 n c m d (fList f) rs (W.alloc _) (by simp) (by simp) (by simp) (((fa.rn.below hb).more hb.size).alloc (Nat.le_refl _) _ |>.more (by simp)) (((hs.below hb).more hb.size).alloc (Nat.le_refl _) _ |>.more (by simp)) (by omega) (by omega)).mono ?_
    rintro e w' ⟨A3,c3,rfl,h1,h2⟩
    rw [hlen] at h1 ⊢
    exact ⟨A3,c3,rfl,xxb h1 (by simp),(hb.alloc hz _).trans (h2.mono (by simp;omega))⟩
   have cs : ∀ W B A3 c3,W.ownsRow B 47 2 (.slice A3 (n + m) c3) (n + m) (rcells (fList f ++ rs)) -> Calls Tryz.prog 245 #[.slice A3 (n + m) c3,.func (.func 246) #[] #[]] W (Sorted W B A3 (n + m) c3 (fList f ++ rs)) := fun W B A3 c3 ho => yk0 A3 (n + m) c3 (fList f ++ rs) W B ho hlen (by omega) (by omega)
   have HMAY : Hid (∀ ds : List (Int × Int),ds.Perm (fList f ++ rs) -> ∀ r ∈ ds,0 <= r.1 /\ 1 <= r.2 /\ r.1 + r.2 <= 1024) := hidb (fun ds hp r hr => by
    rcases List.mem_append.1 (hp.mem_iff.1 hr) with h | h
    ·exact xx3 (xqt f (by omega)) r h
    ·exact (xqd r).1 (hall r h))
   have HADD : Hid (∀ ds : List (Int × Int),ds.Perm (fList f ++ rs) -> (ds.Pairwise fun a b => a.1 <= b.1) -> (shareB ds = true -> fPut f rs true = (f,9)) /\ (shareB ds = false -> ∃ g,fPut f rs true = (g,0) /\ fList g = joinedL ds)) := hidb (fun ds hp hw => add_all hfl hall hp hw)
   have HFR : Hid (Fr w S p f) := hidb ⟨A,n,c,fa,hSp,hSr,hSl⟩
   have HFA := hidb fa
   have HLEN := hidb hlen
   obtain ⟨P,hP⟩ : ∃ P,fPut f rs true = P := ⟨_,rfl⟩
   rw [hP] at HADD ⊢
   have HP := hidb hP
   have HSP := hidb hSp
   have HC : Hid (∀ W,Below w.heap.size w W -> W.cell? ⟨p,0,none⟩ = some (.slice A n c) /\ W.frozen? ⟨p,0,none⟩ = false) := hidb (fun W hb => ⟨(hb.cell (p := ⟨p,0,none⟩) fa.ltp).trans fa.cell,(hb.frozen (p := ⟨p,0,none⟩) fa.ltp).trans fa.free⟩)
   clear hs hr ha hall fa hSp hSr hSl hnm l2 hP hlen
   go_enter Tryz.func196,Tryz.ntmps196
   go_wp2_with (first
    | (go_at_call 243;(with_reducible refine cm.mono ?_);rintro e w1 ⟨rfl,hb1⟩;obtain ⟨y0,y1⟩ := HC.out _ hb1)
    | (go_at_call 244;(with_reducible refine (cc _ _ hb1 rfl).mono ?_);rintro e w2 ⟨A3,c3,rfl,hown2,hb2⟩))
   have hz2 := hb2.size
   refine (cs _ _ _ _ hown2).mono ?_
   rintro e w3 ⟨rfl,ds,hp3,hw3,hown3,hg3⟩
   have hdl : ds.length = n + m := by rw [hp3.length_eq,HLEN.out]
   have hb3 : Below w.heap.size w w3 := hb2.grown hg3 hz2 (fun k hk => by have := (hown2.lt k hk).1;have := hb1.size;omega)
   have hmd := HMAY.out ds hp3
   obtain ⟨a1,a2⟩ := HADD.out ds hp3 hw3
   have rn3 : Rn w3 w3.heap.size A3 (n + m) ds := Rn.of_own hown3 hdl
   have csh := yx9 A3 (n + m) c3 ds w3 rn3 (by omega) (fun r hr => by have := hmd r hr;omega)
   have RN := hidb rn3
   have HMD := hidb hmd
   have HB3 := hidb hb3
   have HAP : Hid (shareB ds = false -> ds.Pairwise fun a b => a.1 + a.2 <= b.1) := hidb (fun e => xZ7 (fun r hr => (hmd r hr).2.1) e)
   clear hp3 hw3 hown3 hg3 hdl hmd rn3 hb3 hown2 hb2 cs cc
   cases hsb : shareB ds with
   | true =>
    obtain rfl := a1 hsb
    rw [hsb] at csh
    clear a1 a2 hsb
    go_wp2_with (first | (go_at_call 247;(with_reducible refine csh.mono ?_);rintro e w4 ⟨rfl,hb4⟩))
    go_ret
    exact DidFr.same HFR.out (HB3.out.trans (hb4.mono HB3.out.size))
   | false =>
    obtain ⟨g,e1,e2⟩ := a2 hsb
    have hglen : (fPut f rs true).1.length = f.length := xz4 f rs true
    rw [HP.out,e1] at hglen
    obtain rfl := e1
    rw [hsb] at csh
    have hap := HAP.out hsb
    have cj : ∀ W,Below w3.heap.size w3 W -> Calls Tryz.prog 248 #[.slice A3 (n + m) c3] W (OwnRuns W (joinedL ds)) := fun W hb => xVq A3 (n + m) c3 ds W ((RN.out.below hb).more hb.size) (by omega) HMD.out hap
    rw [<- e2] at cj
    have HGL : Hid (g.length = 1024) := hidb (by have := HFA.out.flen;simp only at hglen;omega)
    clear a1 a2 hsb e2 hap hglen
    go_wp2_with (first
     | (go_at_call 247;(with_reducible refine csh.mono ?_);rintro e w4 ⟨rfl,hb4⟩)
     | (go_at_call 248;(with_reducible refine (cj _ hb4).mono ?_);rintro e w5 ⟨A5,c5,rfl,hown5,hb5⟩;have hb6 := HB3.out.trans ((hb4.trans (hb5.mono hb4.size)).mono HB3.out.size);obtain ⟨z0,z1⟩ := HC.out _ hb6))
    go_ret
    have hw4 : w.heap.size <= w4.heap.size := by have := HB3.out.size;have := hb4.size;omega
    exact DidFr.stored HFR.out (Kept.of_below hb6 S) ⟨_,z0⟩ z1 (xxb hown5 (by omega)) (fun b hb => by
     have := (hown5.lt b hb).1
     have := HFA.out.ltp
     exact ⟨Or.inr (by omega),by omega⟩) rfl HGL.out
theorem f0_list : fList (List.replicate 1024 false) = [] := by
 refine xw5 _ (by rw [List.length_replicate];omega) [] trivial fun p => ⟨fun h => absurd h (xxg _),fun h => ?_⟩
 rw [List.getD_eq_getElem?_getD,List.getElem?_replicate] at h
 split at h <;> cases h
def ResFr (w : World) (f : List Bool) (no : Int) (e : Ending) (w' : World) : Prop :=
 Below w.heap.size w w' /\ ((no = 0 /\ ∃ p S,e = .returned (.tuple #[.pointer (some ⟨p,0,none⟩),.int .i64 0]) /\ Fr w' S p f /\ ∀ b,S b -> w.heap.size <= b) \/ (no ≠ 0 /\ e = .returned (.tuple #[.pointer none,.int .i64 no])))
set_option maxRecDepth 100000 in
theorem yk1 (A2 : Option Addr) (m d : Nat) (rs : List (Int × Int)) (w : World) (hs : Rn w w.heap.size A2 m rs) (hm : m <= 60000) (hr : ∀ r ∈ rs,in64 r.1 /\ in64 r.2) (F : List Bool) (no : Int) (hP : fPut (List.replicate 1024 false) rs true = (F,no)) :
  Calls Tryz.prog 133 #[.slice A2 m d] w (ResFr w F no) := by
 obtain ⟨f0,hf0⟩ : ∃ f0,List.replicate 1024 false = f0 := ⟨_,rfl⟩
 have hl0 : f0.length = 1024 := by rw [<- hf0,List.length_replicate]
 have he0 : fList f0 = [] := by rw [<- hf0];exact f0_list
 rw [hf0] at hP
 have hfr : Fr (w.alloc (.cells #[.slice none 0 0] 264)) (fun b => b = w.heap.size) w.heap.size f0 :=
  ⟨none,0,0,⟨by simp,by simp [go_sem],by rw [he0];exact World.ownsRow_nil _ _ _ _,by rw [he0];rfl,(fun k hk => by cases hk),hl0⟩,rfl,(fun k hk => by cases hk),(fun b hb => by have hb' : b = w.heap.size := hb;subst hb';simp)⟩
 have ca := xK7 hfr A2 m d rs ((hs.alloc (Nat.le_refl _) _).more (by simp)) hm hr
 rw [hP] at ca
 have hno : no = 0 \/ (no = 2 \/ no = 9) := by
  unfold fPut at hP
  split at hP
  ·unfold freeEnd at hP
   split at hP <;> (injection hP with _ h2;omega)
  ·injection hP with _ h2;omega
 have FIN : Hid (∀ e w',DidFr (w.alloc (.cells #[.slice none 0 0] 264)) (fun b => b = w.heap.size) w.heap.size F no e w' -> Below w.heap.size w w' /\ Fr w' (more (fun b => b = w.heap.size) (w.alloc (.cells #[.slice none 0 0] 264)) w') w.heap.size F /\ ∀ b,more (fun b => b = w.heap.size) (w.alloc (.cells #[.slice none 0 0] 264)) w' b -> w.heap.size <= b) := hidb (fun e w' ⟨_,h2,h3⟩ =>
  ⟨((Below.refl _ _).alloc (Nat.le_refl _) _).trans (h3.below (by simp) (fun b hb => by omega)),h2,xWw (by simp) (fun b hb => by omega)⟩)
 clear hfr hP hs hr hf0 hl0 he0
 rcases hno with rfl | hno
 ·go_enter Tryz.func133,Tryz.ntmps133
  go_wp2_with (first | (go_at_call 196;(with_reducible refine ca.mono ?_);rintro e w1 ⟨rfl,h2,h3⟩))
  go_ret2
  obtain ⟨k1,k2,k3⟩ := FIN.out _ w1 ⟨rfl,h2,h3⟩
  exact ⟨k1,Or.inl ⟨rfl,_,_,rfl,k2,k3⟩⟩
 ·have hne : (no != 0) = true := by simp;omega
  have HNO : Hid (no ≠ 0) := hidb (by omega)
  clear hno
  go_enter Tryz.func133,Tryz.ntmps133
  go_wp2_with (first | (go_at_call 196;(with_reducible refine ca.mono ?_);rintro e w1 ⟨rfl,h2,h3⟩))
  go_ret2
  obtain ⟨k1,k2,k3⟩ := FIN.out _ w1 ⟨rfl,h2,h3⟩
  exact ⟨k1,Or.inr ⟨HNO.out,rfl⟩⟩
theorem yk2 (r x : Int × Int) : (leftL r x).length <= 2 := by
 unfold leftL
 exact List.length_filter_le _ _
theorem xVz (rs : List (Int × Int)) (k : Nat) : (rcells rs).take (k * 2) = rcells (rs.take k) := by
 by_cases h : k <= rs.length
 ·have e : rcells rs = rcells (rs.take k) ++ rcells (rs.drop k) := by rw [<- xqb,List.take_append_drop]
  rw [e]
  exact List.take_left' (by rw [xq6,List.length_take,Nat.min_eq_left h])
 ·rw [List.take_of_length_le (by rw [xq6];omega),List.take_of_length_le (by omega)]
theorem xW0 (rs : List (Int × Int)) (k : Nat) : (rcells rs).drop (k * 2) = rcells (rs.drop k) := by
 by_cases h : k <= rs.length
 ·have e : rcells rs = rcells (rs.take k) ++ rcells (rs.drop k) := by rw [<- xqb,List.take_append_drop]
  rw [e]
  exact List.drop_left' (by rw [xq6,List.length_take,Nat.min_eq_left h])
 ·rw [List.drop_of_length_le (by rw [xq6];omega),List.drop_of_length_le (by omega)];rfl
set_option maxRecDepth 100000 in
set_option maxHeartbeats 4000000 in
theorem yk3 {w : World} {S : Nat -> Prop} {p : Nat} {f : List Bool} (h : Fr w S p f) (s l : Int) (h1 : in64 s) (h2 : in64 l) :
  Calls Tryz.prog 207 #[.pointer (some ⟨p,0,none⟩),.agg #[.int .i64 s,.int .i64 l]] w (DidFr w S p (fPut f [(s,l)] false).1 (fPut f [(s,l)] false).2) := by
 obtain ⟨W2,hW2⟩ : ∃ W2,W2 = (w.alloc (.cells #[.int .i64 s,.int .i64 l] 47)).alloc (.cells #[.int .i64 s,.int .i64 l] 47) := ⟨_,rfl⟩
 have hz : W2.heap.size = w.heap.size + 1 + 1 := by rw [hW2];simp
 have HB2 : Hid (Below w.heap.size w W2) := hidb (by rw [hW2];exact ((Below.refl _ _).alloc (Nat.le_refl _) _).alloc (by simp) _)
 have q0 : W2.cell? ⟨w.heap.size,0,none⟩ = some (.int .i64 s) := by rw [hW2,World.cell?_alloc_lt _ _ ⟨w.heap.size,0,none⟩ (by simp)];simp
 have q1 : W2.cell? ⟨w.heap.size,1,none⟩ = some (.int .i64 l) := by rw [hW2,World.cell?_alloc_lt _ _ ⟨w.heap.size,1,none⟩ (by simp)];simp
 have hrow : Rn W2 W2.heap.size (some ⟨w.heap.size + 1,0,none⟩) 1 [(s,l)] := ⟨rfl,fun _ => ⟨w.heap.size + 1,0,rfl,by omega,fun j r hj => by
  obtain ⟨rfl,rfl⟩ : j = 0 /\ r = (s,l) := by
   cases j with
   | zero => exact ⟨rfl,by simpa using hj.symm⟩
   | succ j => simp at hj
  rw [hW2]
  exact ⟨World.cell?_alloc_at _ _ _ 0 (by simp),World.cell?_alloc_at _ _ _ 1 (by simp)⟩⟩⟩
 have cm := yq5 (some ⟨w.heap.size + 1,0,none⟩) 1 1 [(s,l)] W2 hrow (by omega) (fun r hr => by obtain rfl := List.mem_singleton.1 hr;exact ⟨h1,h2⟩)
 rw [show [(s,l)].all fMay = fMay (s,l) by simp] at cm
 have HW2 := hidb hW2
 have hzz : w.heap.size <= W2.heap.size := by omega
 cases hm : fMay (s,l) with
 | false =>
  rw [hm] at cm
  rw [cut_bad hm]
  have H := hidb h
  clear hm hrow hW2 q0 q1 h h1 h2 hz
  go_enter Tryz.func207,Tryz.ntmps207
  go_wp2_with (first | (go_at_call 243;rw [<- HW2.out];(with_reducible refine cm.mono ?_);rintro e w3 ⟨rfl,hb3⟩))
  go_ret
  exact DidFr.same H.out (HB2.out.trans (hb3.mono hzz))
 | true =>
  rw [hm] at cm
  obtain ⟨m1,m2,m3⟩ := (xqd (s,l)).1 hm
  simp only at m1 m2 m3
  obtain ⟨A,n,c,fa,hSp,hSr,hSl⟩ := h
  have hle := fa.le
  have hfl := fa.flen
  have hall : ∀ W,Below w.heap.size w W -> Calls Tryz.prog 161 #[.pointer (some ⟨p,0,none⟩)] W fun e w' => e = .returned (.slice A n c) /\ W = w' := fun W hb => xZf p A n c W (fa.below hb).cell
  have ca : ∀ W,Below w.heap.size w W -> Calls Tryz.prog 256 #[.pointer (some ⟨p,0,none⟩),.agg #[.int .i64 s,.int .i64 l]] W fun e w' => e = .returned (.int .i64 (idxR (inRun (s,l)) (fList f))) /\ Below w.heap.size w w' /\ W.heap.size <= w'.heap.size /\ Below W.heap.size W w' := fun W hb =>
   (xQj _ A n c (fList f) s l W (hall _ (hb.alloc hb.size _)) ((fa.rn.below hb).more hb.size) (by omega) ⟨by omega,by omega⟩ (fList_in f hfl)).mono fun e w' ⟨k1,k2⟩ => ⟨k1,hb.trans (k2.mono hb.size),k2.size,k2⟩
  have hq : ∀ W,Below W2.heap.size W2 W -> W.cell? ⟨w.heap.size,0,none⟩ = some (.int .i64 s) /\ W.cell? ⟨w.heap.size,1,none⟩ = some (.int .i64 l) := fun W hb => by
   rw [hb.cell (p := ⟨w.heap.size,0,none⟩) (by show w.heap.size < _;omega),hb.cell (p := ⟨w.heap.size,1,none⟩) (by show w.heap.size < _;omega)];exact ⟨q0,q1⟩
  have HQ := hidb hq
  have HFR : Hid (Fr w S p f) := hidb ⟨A,n,c,fa,hSp,hSr,hSl⟩
  have HFA := hidb fa
  have HSR := hidb hSr
  rcases xv7 (inRun (s,l)) (fList f) with ⟨hk,hno⟩ | ⟨i,r,hk,hir,hin⟩
  ·rw [cut_no hfl hm hno]
   rw [hk] at ca
   clear hm hrow hW2 q0 q1 hall h1 h2 hz hq hk hno m1 m2 m3 fa hSp hSr hSl
   go_enter Tryz.func207,Tryz.ntmps207
   go_wp2_with (first
    | (go_at_call 243;rw [<- HW2.out];(with_reducible refine cm.mono ?_);rintro e w3 ⟨rfl,hb3⟩;obtain ⟨y0,y1⟩ := HQ.out _ hb3;have hb4 := HB2.out.trans (hb3.mono hzz))
    | (go_at_call 256;(with_reducible refine (ca _ hb4).mono ?_);rintro e w5 ⟨rfl,hb5,_,_⟩))
   go_ret
   exact DidFr.same HFR.out hb5
  ·obtain ⟨g,eg,hgl⟩ := yj8 hfl hm hir hin
   have hgl0 : g.length = 1024 := by
    have := xz4 f [(s,l)] false
    rw [eg] at this
    simp only at this
    omega
   rw [eg]
   rw [hk] at ca
   have hilt : i < n := by have := (List.getElem?_eq_some_iff.1 hir).1;have := fa.len;omega
   obtain ⟨f1,f2⟩ := r
   have hrm := xx3 (xqt f (by omega)) (f1,f2) (List.mem_of_getElem? hir)
   simp only at hrm
   obtain ⟨b,rfl⟩ : ∃ b,A = some ⟨b,0,none⟩ := by
    rcases fa.own.2 with ⟨_,h0⟩ | ⟨b,cap,cur,h1,_⟩
    ·omega
    ·injection h1 with e1;exact ⟨b,e1⟩
   have hbp : b ≠ p := fa.ne b rfl
   have hblt : b < w.heap.size := (fa.own.lt b rfl).2
   have HC : Hid (∀ W,Below w.heap.size w W -> W.cell? ⟨p,0,none⟩ = some (.slice (some ⟨b,0,none⟩) n c) /\ W.frozen? ⟨p,0,none⟩ = false /\ W.cell? ⟨b,i * 2,none⟩ = some (.int .i64 f1) /\ W.cell? ⟨b,i * 2 + 1,none⟩ = some (.int .i64 f2)) := hidb (fun W hb => by
    have k0 := (fa.below hb).own.cellAt (i * 2) (by omega)
    have k1 := (fa.below hb).own.cellAt (i * 2 + 1) (by omega)
    have k2 := xj4 (fList f) i (f1,f2) hir
    exact ⟨(fa.below hb).cell,(fa.below hb).free,k0.trans k2.1,k1.trans k2.2⟩)
   have cl : ∀ W,Below w.heap.size w W -> Calls Tryz.prog 258 #[.agg #[.int .i64 f1,.int .i64 f2],.agg #[.int .i64 s,.int .i64 l]] W fun e w' => ∃ A7 c7,e = .returned (.slice A7 (leftL (f1,f2) (s,l)).length c7) /\ w'.ownsRow W.heap.size 47 2 (.slice A7 (leftL (f1,f2) (s,l)).length c7) (leftL (f1,f2) (s,l)).length (rcells (leftL (f1,f2) (s,l))) /\ Below w.heap.size w w' := fun W hb =>
    (yjd f1 f2 s l W (by omega) (by omega) (by omega) (by omega) (by omega) (by omega)).mono fun e w' ⟨A7,c7,k1,k2,k3⟩ => ⟨A7,c7,k1,k2,hb.trans (k3.mono hb.size)⟩
   have HLEFT2 := hidb (yk2 (f1,f2) (s,l))
   obtain ⟨V,hV⟩ : ∃ V,leftL (f1,f2) (s,l) = V := ⟨_,rfl⟩
   rw [hV] at cl HLEFT2 hgl
   obtain ⟨m,hml⟩ : ∃ m,V.length = m := ⟨_,rfl⟩
   rw [hml] at cl HLEFT2
   have cr : ∀ W A7 c7 B7,Below w.heap.size w W -> w.heap.size <= B7 -> W.ownsRow B7 47 2 (.slice A7 m c7) m (rcells V) -> Calls Tryz.prog 257 #[.slice (some ⟨b,0,none⟩) n c,.int .i64 (i : Int),.int .i64 ((i : Int) + 1),.slice A7 m c7] W fun e w' => ∃ A9 c9,e = .returned (.slice A9 (n - 1 + m) c9) /\
     (∀ w9,w9 = w'.setCell ⟨p,0,none⟩ (.slice A9 (n - 1 + m) c9) -> DidFr w S p g 0 (.returned (.int .i64 0)) w9) /\ (∃ u,w'.cell? ⟨p,0,none⟩ = some u) /\ w'.frozen? ⟨p,0,none⟩ = false := fun W A7 c7 B7 hb hB7 ho => by
    have fb := fa.below hb
    refine (xJz b i n c m c7 A7 (rcells (fList f)) (rcells V) W 0 B7 fb.own hilt (by omega) (xxv _) (Nat.zero_le _) ho HLEFT2.out (xxv _) (fun k hk e => by have := (ho.lt k hk).1;omega)).mono ?_
    rintro e w' ⟨A9,c9,rfl,k1,k2,k3⟩
    have hp' : p ≠ b := fun e => hbp e.symm
    have z0 : w'.cell? ⟨p,0,none⟩ = W.cell? ⟨p,0,none⟩ := World.cell?_of_block (w := W) (a := ⟨p,0,none⟩) (k3.block p fb.ltp (fun e => hp' (by injection e)))
    have z1 : w'.frozen? ⟨p,0,none⟩ = W.frozen? ⟨p,0,none⟩ := World.frozen?_of_block (w := W) (a := ⟨p,0,none⟩) (k3.block p fb.ltp (fun e => hp' (by injection e)))
    rw [fb.cell] at z0
    rw [fb.free] at z1
    refine ⟨A9,c9,rfl,fun w9 e9 => ?_,⟨_,z0⟩,z1⟩
    subst e9
    rw [xVz,xW0,<- xqb,<- xqb,<- hgl] at k1
    have hkn : (fList g).length = n - 1 + m := by
     rw [hgl]
     have := fa.len
     simp only [List.length_append,List.length_take,List.length_drop,hml]
     omega
    refine DidFr.stored ⟨_,n,c,fa,hSp,hSr,hSl⟩ ((Kept.of_below hb S).grown k3 (fun k hk => by cases hk;exact Or.inl (hSr b rfl))) ⟨_,z0⟩ z1 k1 (fun k hk => ?_) hkn hgl0
    cases A9 with
    | none => cases hk
    | some a9 =>
     have hk' : a9.block = k := by injection hk
     subst hk'
     rcases k2 a9 rfl with h | h
     ·rw [h];exact ⟨Or.inl (hSr b rfl),hbp⟩
     ·have := hb.size;have := fa.ltp;exact ⟨Or.inr (by omega),by omega⟩
   have hwi : IntKind.i64.wrap ((i : Int) + 1) = (i : Int) + 1 := IntWalk.i64_in _ (by omega)
   have hi0 : (0 : Int) <= (i : Int) := by omega
   have hi1 : (i : Int) < (n : Int) := by omega
   have hi2 : ¬ (i : Int) < 0 := by omega
   clear hm hrow hW2 q0 q1 hall h1 h2 hz hq hk hir hin m1 m2 m3 fa hSp hSr hSl eg hgl hV hml hrm hgl0
   go_enter Tryz.func207,Tryz.ntmps207
   go_wp2_with (first
    | (go_at_call 243;rw [<- HW2.out];(with_reducible refine cm.mono ?_);rintro e w3 ⟨rfl,hb3⟩;obtain ⟨y0,y1⟩ := HQ.out _ hb3;have hb4 := HB2.out.trans (hb3.mono hzz))
    | (go_at_call 256;(with_reducible refine (ca _ hb4).mono ?_);rintro e w5 ⟨rfl,hb5,hs5,hr5⟩;obtain ⟨x0,x1⟩ := HQ.out _ (hb3.trans (hr5.mono hb3.size));obtain ⟨z0,z1,z2,z3⟩ := HC.out _ hb5))
   have clw := cl w5.drew hb5.drew
   have HB5 := hidb hb5
   go_region_law (first
    | (go_simp;go_at_call 258;(with_reducible refine clw.mono ?_);rintro e w7 ⟨A7,c7,rfl,ho7,hb7⟩;obtain ⟨t0,t1,t2,t3⟩ := HC.out _ hb7;have crw := cr w7 A7 c7 _ hb7 hb5.size ho7)
    | (go_simp;go_at_call 257;(with_reducible refine crw.mono ?_);rintro e w8 ⟨A9,c9,rfl,hend,⟨u8,hu8⟩,hf8⟩))
   all_goals
    go_wp2
    go_ret
    exact hend _ rfl
def fTake (f : List Bool) (k : Int) : List Bool := match fBest f k with | none => f | some r => (fPut f [(r.1,k)] false).1
theorem take_ok {f : List Bool} (hf : f.length = 1024) {k : Int} {r : Int × Int} (h : fBest f k = some r) : ∃ g,fPut f [(r.1,k)] false = (g,0) /\ fMay (r.1,k) = true /\ ∃ i,(fList f)[i]? = some r /\ inRun (r.1,k) r = true /\ fList g = (fList f).take i ++ leftL r (r.1,k) ++ (fList f).drop (i + 1) := by
 obtain ⟨h1,h2,h3⟩ := xwr (by omega) h
 have hm := xx3 (xqt f (by omega)) r h3
 have hmay : fMay (r.1,k) = true := (xqd _).2 ⟨hm.1,h1,by show r.1 + k <= 1024;omega⟩
 have hin : inRun (r.1,k) r = true := (xkk _ _).2 ⟨Int.le_refl _,by show r.1 + k <= r.1 + r.2;omega⟩
 obtain ⟨i,hi,e⟩ := List.getElem_of_mem h3
 have hir : (fList f)[i]? = some r := by rw [List.getElem?_eq_getElem hi,e]
 obtain ⟨g,e1,e2⟩ := yj8 hf hmay hir hin
 exact ⟨g,e1,hmay,i,hir,hin,e2⟩
def TookFr (w : World) (S : Nat -> Prop) (p : Nat) (f : List Bool) (r : Option (Int × Int)) (e : Ending) (w' : World) : Prop :=
 e = .returned (.tuple #[.agg #[.int .i64 (r.getD (0,0)).1,.int .i64 (r.getD (0,0)).2],.bool r.isSome]) /\ Fr w' (more S w w') p f /\ Kept S w w'
set_option maxRecDepth 100000 in
set_option maxHeartbeats 2000000 in
theorem xXe {w : World} {S : Nat -> Prop} {p : Nat} {f : List Bool} (h : Fr w S p f) (k : Int) (hk : in64 k) :
  Calls Tryz.prog 146 #[.pointer (some ⟨p,0,none⟩),.int .i64 k] w (TookFr w S p (fTake f k) ((fBest f k).map fun r => (r.1,k))) := by
 obtain ⟨W1,hW1⟩ : ∃ W1,W1 = w.alloc (.cells #[.int .i64 0,.int .i64 0] 47) := ⟨_,rfl⟩
 have hz : W1.heap.size = w.heap.size + 1 := by rw [hW1];simp
 have hb1 : Below w.heap.size w W1 := by rw [hW1];exact (Below.refl _ _).alloc (Nat.le_refl _) _
 have p0 : W1.cell? ⟨w.heap.size,0,none⟩ = some (.int .i64 0) := by rw [hW1];simp
 have p1 : W1.cell? ⟨w.heap.size,1,none⟩ = some (.int .i64 0) := by rw [hW1];simp
 have f0 : ∀ j,W1.frozen? ⟨w.heap.size,j,none⟩ = false := fun j => by rw [hW1];simp [go_sem]
 have cb := yxf (h.below hb1) k hk
 have HW1 := hidb hW1
 have HQ : Hid (∀ W,Below W1.heap.size W1 W -> W.cell? ⟨w.heap.size,0,none⟩ = some (.int .i64 0) /\ W.cell? ⟨w.heap.size,1,none⟩ = some (.int .i64 0) /\ W.frozen? ⟨w.heap.size,0,none⟩ = false /\ W.frozen? ⟨w.heap.size,1,none⟩ = false) := hidb (fun W hb => by
  rw [hb.cell (p := ⟨w.heap.size,0,none⟩) (by show w.heap.size < _;omega),hb.cell (p := ⟨w.heap.size,1,none⟩) (by show w.heap.size < _;omega),hb.frozen (p := ⟨w.heap.size,0,none⟩) (by show w.heap.size < _;omega),hb.frozen (p := ⟨w.heap.size,1,none⟩) (by show w.heap.size < _;omega)]
  exact ⟨p0,p1,f0 0,f0 1⟩)
 cases hB : fBest f k with
 | none =>
  rw [hB] at cb
  have e1 : fTake f k = f := by unfold fTake;rw [hB]
  rw [e1]
  have H := hidb h
  have HB1 := hidb hb1
  have hzz : w.heap.size <= W1.heap.size := by omega
  clear h hk hB e1 hW1 p0 p1 f0 hb1
  go_enter Tryz.func146,Tryz.ntmps146
  go_wp2_with (first | (go_at_call 206;rw [<- HW1.out];(with_reducible refine cb.mono ?_);rintro e w2 ⟨rfl,hb2⟩;obtain ⟨y0,y1,z0,z1⟩ := HQ.out _ hb2;have hlt2 : w.heap.size < w2.heap.size := xq0 y0;have hne2 : ¬ w.heap.size = w2.heap.size := Nat.ne_of_lt hlt2))
  obtain ⟨r0,r1⟩ := xzo w2 w.heap.size (.int .i64 0) (.int .i64 0) _ _ y0 y1
  have s0 := fun o => (World.cell?_alloc_lt ((w2.setCell ⟨w.heap.size,0,none⟩ (.int .i64 0)).setCell ⟨w.heap.size,1,none⟩ (.int .i64 0)) o ⟨w.heap.size,0,none⟩ (by simpa using hlt2)).trans r0
  have s1 := fun o => (World.cell?_alloc_lt ((w2.setCell ⟨w.heap.size,0,none⟩ (.int .i64 0)).setCell ⟨w.heap.size,1,none⟩ (.int .i64 0)) o ⟨w.heap.size,1,none⟩ (by simpa using hlt2)).trans r1
  have S0 := hidb s0
  have S1 := hidb s1
  have HBE : Hid (∀ o,Below w.heap.size w (((w2.setCell ⟨w.heap.size,0,none⟩ (.int .i64 0)).setCell ⟨w.heap.size,1,none⟩ (.int .i64 0)).alloc o)) := hidb (fun o => (((HB1.out.trans (hb2.mono hzz)).setCell (p := ⟨w.heap.size,0,none⟩) (Nat.le_refl _) _).setCell (p := ⟨w.heap.size,1,none⟩) (Nat.le_refl _) _).alloc (by simp;omega) o)
  clear s0 s1 r0 r1
  go_wp2
  have s0 := S0.out
  have s1 := S1.out
  refine bodyPost_ret (v := .tuple #[.agg #[.int .i64 0,.int .i64 0],.bool false]) (by simp [results,Tryz.results146,go_sem,s0,s1]) rfl ?_
  exact ⟨rfl,(H.out.below (HBE.out _)).more_ (HBE.out _).size,Kept.of_below (HBE.out _) S⟩
 | some r =>
  obtain ⟨g,e1,hmay,_⟩ := take_ok h.flen hB
  obtain ⟨s,l⟩ := r
  have e2 : fTake f k = g := by unfold fTake;rw [hB];simp only;rw [e1]
  rw [e2]
  rw [hB] at cb
  obtain ⟨m1,m2,m3⟩ := (xqd (s,k)).1 hmay
  simp only at m1 m2 m3
  have cc : ∀ W,Below w.heap.size w W -> Calls Tryz.prog 207 #[.pointer (some ⟨p,0,none⟩),.agg #[.int .i64 s,.int .i64 k]] W (DidFr W S p g 0) := fun W hb => by
   have := yk3 (h.below hb) s k ⟨by omega,by omega⟩ hk
   rw [e1] at this
   exact this
  have hSl := h.lt
  have HB1 := hidb hb1
  have HSL := hidb hSl
  have hzz : w.heap.size <= W1.heap.size := by omega
  have HEND : Hid (∀ W w5,Below w.heap.size w W -> w.heap.size < W.heap.size -> Fr w5 (more S W w5) p g -> Kept S W w5 -> ∀ w6,w6 = (w5.setCell ⟨w.heap.size,0,none⟩ (.int .i64 s)).setCell ⟨w.heap.size,1,none⟩ (.int .i64 k) -> Fr w6 (more S w w6) p g /\ Kept S w w6) := hidb (fun W w5 hb hlt hF hK w6 e6 => by
   have hk6 : Kept (fun b => b = w.heap.size) w5 w6 := by rw [e6];exact (Kept.set (a := ⟨w.heap.size,1,none⟩) (Kept.set (a := ⟨w.heap.size,0,none⟩) (Kept.refl (fun b => b = w.heap.size) w5) (Or.inl rfl) _) (Or.inl rfl) _)
   have hF6 := hF.keep hk6 (fun b hb' e => by
    rcases hb'.1 with c | c
    ·have := hSl b c;omega
    ·omega)
   refine ⟨?_,((Kept.of_below hb S).trans hK (fun b _ h => h)).trans hk6 (fun b hb' e => by omega)⟩
   obtain ⟨A,n,c,k1,k2,k3,k4⟩ := hF6
   have hsz := hb.size
   have wid : ∀ b,more S W w5 b -> more S w w6 b := fun b hb' => ⟨by
    rcases hb'.1 with c | c
    ·exact Or.inl c
    ·exact Or.inr (by omega),k4 b hb'⟩
   exact ⟨A,n,c,k1,wid _ k2,fun q hq => wid _ (k3 q hq),fun b hb' => hb'.2⟩)
  have HNS : Hid (¬ S w.heap.size) := hidb (fun c => by have := hSl _ c;omega)
  clear h hB hW1 p0 p1 f0 hb1 e1 e2 hmay hSl
  go_enter Tryz.func146,Tryz.ntmps146
  go_wp2_with (first | (go_at_call 206;rw [<- HW1.out];(with_reducible refine cb.mono ?_);rintro e w2 ⟨rfl,hb2⟩;obtain ⟨y0,y1,z0,z1⟩ := HQ.out _ hb2;have hlt2 : w.heap.size < w2.heap.size := xq0 y0;have hne2 : ¬ w.heap.size = w2.heap.size := Nat.ne_of_lt hlt2))
  have HBW : Hid (Below w.heap.size w w2) := hidb (HB1.out.trans (hb2.mono hzz))
  have hzle : w.heap.size <= w2.heap.size := by omega
  refine (cc _ (by exact (HBW.out.alloc hzle _).alloc (by simp;omega) _)).mono ?_
  rintro e w5 ⟨rfl,hF5,hK5⟩
  have hns := HNS.out
  have hns2 : ¬ S (w2.heap.size + 1) := fun c => by have := HSL.out _ c;omega
  have t0 : w5.cell? ⟨w.heap.size,0,none⟩ = some (.int .i64 0) := by
   rw [hK5.cell (a := ⟨w.heap.size,0,none⟩) (by simp;omega) hns,World.cell?_alloc_lt _ _ ⟨w.heap.size,0,none⟩ (by simp;omega),World.cell?_alloc_lt _ _ ⟨w.heap.size,0,none⟩ hlt2];exact y0
  have t1 : w5.cell? ⟨w.heap.size,1,none⟩ = some (.int .i64 0) := by
   rw [hK5.cell (a := ⟨w.heap.size,1,none⟩) (by simp;omega) hns,World.cell?_alloc_lt _ _ ⟨w.heap.size,1,none⟩ (by simp;omega),World.cell?_alloc_lt _ _ ⟨w.heap.size,1,none⟩ hlt2];exact y1
  have kfr := fun j => World.frozen?_of_block (a := ⟨w.heap.size,j,none⟩) (hK5.block w.heap.size (by simp;omega) hns)
  have t2 : w5.frozen? ⟨w.heap.size,0,none⟩ = false := by rw [kfr];exact (Below.frozen (B := w2.heap.size) (w := w2) (((Below.refl _ _).alloc (Nat.le_refl _) _).alloc (by simp) _) (p := ⟨w.heap.size,0,none⟩) hlt2).trans z0
  have t3 : w5.frozen? ⟨w.heap.size,1,none⟩ = false := by rw [kfr];exact (Below.frozen (B := w2.heap.size) (w := w2) (((Below.refl _ _).alloc (Nat.le_refl _) _).alloc (by simp) _) (p := ⟨w.heap.size,1,none⟩) hlt2).trans z1
  have u0 : w5.cell? ⟨w2.heap.size + 1,0,none⟩ = some (.int .i64 s) := by
   rw [hK5.cell (a := ⟨w2.heap.size + 1,0,none⟩) (by simp) hns2];exact World.cell?_alloc_at _ _ _ 0 (by simp)
  have u1 : w5.cell? ⟨w2.heap.size + 1,1,none⟩ = some (.int .i64 k) := by
   rw [hK5.cell (a := ⟨w2.heap.size + 1,1,none⟩) (by simp) hns2];exact World.cell?_alloc_at _ _ _ 1 (by simp)
  have hz5 : w.heap.size < w5.heap.size := by have := hK5.size;simp at this;omega
  have HE := hidb (HEND.out _ w5 ((HBW.out.alloc hzle _).alloc (by simp;omega) _) (by simp;omega) hF5 hK5)
  clear hF5 hK5 kfr
  obtain ⟨s0,s1⟩ := xzo w5 w.heap.size (.int .i64 s) (.int .i64 k) _ _ t0 t1
  have S0 := hidb s0
  have S1 := hidb s1
  clear s0 s1
  go_wp2
  have s0 := S0.out
  have s1 := S1.out
  refine bodyPost_ret (v := .tuple #[.agg #[.int .i64 s,.int .i64 k],.bool true]) (by simp [results,Tryz.results146,go_sem,s0,s1]) rfl ?_
  obtain ⟨k1,k2⟩ := HE.out _ rfl
  exact ⟨rfl,k1,k2⟩
end Go.Proofs.YtlcdgmjinhbncaaGreat
