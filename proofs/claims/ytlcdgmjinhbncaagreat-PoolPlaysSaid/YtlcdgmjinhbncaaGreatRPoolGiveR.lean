import Derived.Test.YtlcdgmjinhbncaaGreatRPoolGiveR0
import Derived.Deep.RegionHeld3
import Derived.Deep.Cut
import Derived.Deep.CutRange
namespace Go.Proofs.YtlcdgmjinhbncaaGreat
open Go.RowKit
set_option linter.unusedVariables false
theorem q_inG (A : Option Addr) (n c : Nat) (zs : List Int) (v : Int) (w : World) (q B : Nat) (hs : Sl w B A n (zs.map iv)) (hn : n <= 65536) (b : Bool) (hb : decide (v ∈ zs) = b) :
  Calls Tryz.prog 38 #[.slice A n c,.int .i64 v] (w.drewN q) fun e w'' => e = .returned (.bool b) /\ ∃ m,w'' = w.drewN m :=
 (xk8 A n c zs v (w.drewN q) B (hs.drewN q) (by omega)).mono fun e w' h => ⟨by rw [h.1,hb],q,h.2.symm⟩
theorem yqq {α : Type} : ∀ {l m : List α},l.Nodup -> (∀ x ∈ l,x ∈ m) -> l.length <= m.length
 | [],_,_,_ => Nat.zero_le _
 | x :: l,m,hd,hm => by
  obtain ⟨a,b,rfl⟩ := List.append_of_mem (hm x (List.mem_cons_self ..))
  have hd2 := List.nodup_cons.1 hd
  have ih := yqq (l := l) (m := a ++ b) hd2.2 fun y hy => by
   have h1 := hm y (List.mem_cons_of_mem _ hy)
   rcases List.mem_append.1 h1 with h | h
   ·exact List.mem_append_left _ h
   ·rcases List.mem_cons.1 h with rfl | h
    ·exact absurd hy hd2.1
    ·exact List.mem_append_right _ h
  rw [List.length_append] at ih
  simp only [List.length_cons,List.length_append]
  omega
theorem yqr (X : World) (u : Value) (base : Nat) (t : TypeId) (g : Nat) (hg : g = X.heap.size) (hb : base <= X.heap.size) : (X.alloc (.cells #[u] t)).ownsRow base t 1 (.slice (some ⟨g,0,none⟩) 1 1) 1 [u] := by
 subst hg
 refine ⟨rfl,Or.inr ⟨X.heap.size,1,#[u],rfl,hb,?_,Nat.le_refl _,by unfold maxLen;omega,rfl,rfl⟩⟩
 show (X.heap.push _)[X.heap.size]? = _
 simp
theorem Sl.cellsAtG {w : World} {B n : Nat} {A : Option Addr} {l : List Value} (h : Sl w B A n l) : CellsAt w A l := fun ad e j u hj => by
 have hjl := (List.getElem?_eq_some_iff.1 hj).1
 have hl : l.length = n := h.1
 obtain ⟨b,off,u',e2,_,hu,hc⟩ := h.at_ (k := j) (by omega)
 rw [e] at e2
 injection e2 with e2
 subst e2
 rw [hj] at hu
 obtain rfl := Option.some.inj hu
 rw [Go.WideShapes.add_plain]
 exact hc
theorem iv_oneG (l : List Int) : ∀ u ∈ l.map iv,u.oneCell' = true := fun u hu => by
 obtain ⟨x,_,rfl⟩ := List.mem_map.1 hu
 rfl
theorem Cn.asideG {w : World} {P : Nat -> Prop} {A : Option Addr} {n : Nat} {ys : List CV} (h : Cn w P A n ys) {b : Nat} (hb : ¬ P b) (j : Nat) (u : Value) : Cn (w.setCell ⟨b,j,none⟩ u) P A n ys :=
 ⟨(RowOf.aside h.row (p := ⟨b,j,none⟩) (fun a e e2 => hb (by have := h.inp a e;have e3 : a.block = b := e2;rw [e3] at this;exact this)) u).more (by simp),fun y hy => by
  obtain ⟨h1,h2,h3,h4,h5,h6⟩ := h.lists y hy
  exact ⟨(h1.aside (p := ⟨b,j,none⟩) (fun a e e2 => hb (by have := h5 a e;have e3 : a.block = b := e2;rw [e3] at this;exact this)) u).more (by simp),h2,h3,h4,h5,h6⟩,h.inp,h.ok⟩
theorem put_len {p : PoolV} (o : POk p) {i : Nat} {s : Int × Int × Int × Int} {yl : List Int} (h : p.l[i]? = some (s,yl)) : yl.length <= 16 /\ SpanOk s := by
 have hm := List.mem_of_getElem? h
 have h4 := o.four _ hm
 have h1 := yqq (o.nod _ hm) (o.sub _ hm)
 have h2 := o.hok.start (o.mem _ hm)
 have h3 := o.hok.p1
 simp only at h1 h2 h4
 rw [xq9,h4.1] at h1
 have h5 := xx4 s.2.2.2 h4.2.1 h4.2.2
 refine ⟨by have := h5.2.1;omega,by unfold SpanOk;omega⟩
set_option maxRecDepth 100000 in
set_option maxHeartbeats 8000000 in
theorem yvi (P : Nat -> Prop) (q : PoolV) (v : Value) (AI : Option Addr) (N cI : Nat) (xs : List Int) (w : World) (hP : ∀ b,w.heap.size <= b -> P b) (o : POk q) (hv : PoIs w P q v) (hn : q.l.length <= 60000) (hl : q.heap.l.length <= 60000) (hla0 : q.heap.last <= 1000000000) (hs : Sl w w.heap.size AI N (xs.map iv)) (hN : N <= 60000) (hid : ∀ x ∈ xs,in64 x) :
  Calls Tryz.prog 67 #[v,.slice AI N cI] w (PoolRet2 w P (pGive q xs).1 (.int .i64 (pGive q xs).2)) := by
 obtain ⟨A,n,c,A2,n2,c2,A3,n3,c3,ys,hv',h1,h2,h3,h4,h5,h6⟩ := hv
 have l3 : ys.length = n3 := h2.row.1
 have lq : q.l.length = n3 := by rw [<- h3,List.length_map,l3]
 rw [lq] at hn
 obtain ⟨P',hP'⟩ : ∃ P' : Nat -> Prop,P' = fun x => P x /\ x ≠ w.heap.size /\ x ≠ w.heap.size + 1 := ⟨_,rfl⟩
 have hPP : ∀ b,w.heap.size + 2 <= b -> P' b := fun b h => by rw [hP'];exact ⟨hP b (by omega),by omega,by omega⟩
 have hPL : ∀ b,P b -> b < w.heap.size -> P' b := fun b h h2 => by rw [hP'];exact ⟨h,by omega,by omega⟩
 have h1' : HIs w P' q.heap (hval q.heap.pages A n c A2 n2 c2 q.heap.last) := (h1.apart (by rw [o.hok.fl];omega)).weaken fun b h => hPL b h.1 h.2
 have h2' : Cn w P' A3 n3 ys := ⟨h2.row,fun z hz => by
  obtain ⟨k1,k2,k3,k4,k5,k6⟩ := h2.lists z hz
  exact ⟨k1,k2,k3,k4,fun x hx => hPL _ (k5 x hx) (h6 z hz x hx),k6⟩,fun x hx => hPL _ (h2.inp x hx) (h5 x hx),h2.ok⟩
 obtain ⟨pg,hpg⟩ : ∃ x,q.heap.pages = x := ⟨_,rfl⟩
 obtain ⟨la,hla⟩ : ∃ x,q.heap.last = x := ⟨_,rfl⟩
 obtain ⟨hd,hhd⟩ : ∃ x,q.held = x := ⟨_,rfl⟩
 rw [hpg,hla] at h1'
 obtain ⟨W0,hW0⟩ : ∃ W0,W0 = (w.alloc (.cells #[.int .i64 pg,.slice A n c,.slice A2 n2 c2,.int .i64 la,.slice A3 n3 c3,.bool hd] 35)).alloc (.cells #[.int .i64 0,.slice none 0 0,.slice none 0 0,.int .i64 0,.slice none 0 0,.bool false] 35) := ⟨_,rfl⟩
 have hz : W0.heap.size = w.heap.size + 2 := by rw [hW0];simp
 have hB : Below w.heap.size w W0 := by rw [hW0];exact ((Below.refl _ _).alloc (Nat.le_refl _) _).alloc (by simp) _
 have BX : Hid (∀ W,Below W0.heap.size W0 W -> (W.cell? ⟨w.heap.size,0,none⟩ = some (.int .i64 pg) /\ W.cell? ⟨w.heap.size,1,none⟩ = some (.slice A n c) /\ W.cell? ⟨w.heap.size,2,none⟩ = some (.slice A2 n2 c2) /\ W.cell? ⟨w.heap.size,3,none⟩ = some (.int .i64 la) /\ W.cell? ⟨w.heap.size,4,none⟩ = some (.slice A3 n3 c3) /\ W.cell? ⟨w.heap.size,5,none⟩ = some (.bool hd)) /\
   (W.cell? ⟨w.heap.size + 1,0,none⟩ = some (.int .i64 0) /\ W.cell? ⟨w.heap.size + 1,1,none⟩ = some (.slice none 0 0) /\ W.cell? ⟨w.heap.size + 1,2,none⟩ = some (.slice none 0 0) /\ W.cell? ⟨w.heap.size + 1,3,none⟩ = some (.int .i64 0) /\ W.cell? ⟨w.heap.size + 1,4,none⟩ = some (.slice none 0 0) /\ W.cell? ⟨w.heap.size + 1,5,none⟩ = some (.bool false)) /\ (∀ j,W.frozen? ⟨w.heap.size + 1,j,none⟩ = false) /\ Below w.heap.size w W /\ w.heap.size + 2 <= W.heap.size) := hidb (fun W hb => by
  have hbw := hB.trans (hb.mono (by omega))
  have hbz := hb.size
  have q0 : ∀ j,W.cell? ⟨w.heap.size,j,none⟩ = W0.cell? ⟨w.heap.size,j,none⟩ := fun j => hb.cell (p := ⟨w.heap.size,j,none⟩) (by show w.heap.size < _;omega)
  have q1 : ∀ j,W.cell? ⟨w.heap.size + 1,j,none⟩ = W0.cell? ⟨w.heap.size + 1,j,none⟩ := fun j => hb.cell (p := ⟨w.heap.size + 1,j,none⟩) (by show w.heap.size + 1 < _;omega)
  have qf : ∀ j,W.frozen? ⟨w.heap.size + 1,j,none⟩ = W0.frozen? ⟨w.heap.size + 1,j,none⟩ := fun j => hb.frozen (p := ⟨w.heap.size + 1,j,none⟩) (by show w.heap.size + 1 < _;omega)
  refine ⟨?_,?_,fun j => ?_,hbw,by omega⟩
  ·rw [q0,q0,q0,q0,q0,q0,hW0];simp [go_sem]
  ·rw [q1,q1,q1,q1,q1,q1,hW0];simp [go_sem]
  ·rw [qf,hW0];simp [go_sem])
 have HID : Hid (∀ W,Below w.heap.size w W -> ∀ j,j < N -> ∃ b off x,AI = some ⟨b,off,none⟩ /\ b < w.heap.size /\ xs[j]? = some x /\ in64 x /\ W.cell? ⟨b,off + j,none⟩ = some (.int .i64 x)) := hidb (fun W hb j hj => by
  obtain ⟨b,off,x,e,hx,hc⟩ := (hs.below hb).int_ hj
  obtain ⟨b5,o5,e5,hb5,_⟩ := hs.2 (by omega)
  rw [e] at e5
  injection e5 with e5
  injection e5 with e5 _ _
  exact ⟨b,off,x,e,by rw [e5];exact hb5,hx,hid x (List.mem_of_getElem? hx),hc⟩)
 have HFIN : Hid (∀ no : Int,pGive q xs = (q,no) -> ∀ WF,Below w.heap.size w WF -> PoolRet2 w P (pGive q xs).1 (.int .i64 (pGive q xs).2) (.returned (.tuple #[.agg #[.int .i64 pg,.slice A n c,.slice A2 n2 c2,.int .i64 la,.slice A3 n3 c3,.bool hd],.int .i64 no])) WF) := hidb (fun no e WF hb => by
  rw [e]
  refine ⟨_,rfl,⟨A,n,c,A2,n2,c2,A3,n3,c3,ys,?_,h1.below hb,h2.below hb,h3,h4,fun a ha => Nat.lt_of_lt_of_le (h5 a ha) hb.size,fun y hy a ha => Nat.lt_of_lt_of_le (h6 y hy a ha) hb.size⟩,hb⟩
  unfold pval
  rw [hpg,hla,hhd])
 have CO : Hid (∀ x,in64 x -> ∀ W,Below W0.heap.size W0 W -> Calls Tryz.prog 80 #[.agg #[.int .i64 pg,.slice A n c,.slice A2 n2 c2,.int .i64 la,.slice A3 n3 c3,.bool hd],.int .i64 x] W fun e w3 => e = .returned (.int .i64 (idxInt (pOf q.l x))) /\ Below W.heap.size W w3) := hidb (fun x hx W hb => by
  have := xJ9 P' pg la A A2 A3 n c n2 c2 n3 c3 hd ys x W (h2'.below (BX.out W hb).2.2.2.1) (by omega) hx
  rw [h3] at this
  exact this)
 have HLI : Hid (xs.length = N) := hidb (by have := hs.1;simpa using this)
 have HKP := hidb (⟨hP,hP',hPP,h1',h2',h3,h4,h5,h6,hpg,hla,hhd,l3⟩ : _ /\ _ /\ _ /\ _ /\ _ /\ _ /\ _ /\ _ /\ _ /\ _ /\ _ /\ _ /\ _)
 have HW0 := hidb hW0
 have HZ := hidb hz
 have HO := hidb o
 rw [hpg,hla,hhd] at hv'
 unfold pval at hv'
 subst hv'
 clear hW0 hz hB hpg hla hhd h1 h2 h3 h4 h5 h6 h1' h2' hP' hPP hPL o lq hP l3 hs hid
 go_enter Tryz.func67,Tryz.ntmps67
 go_wp2
 rw [<- HW0.out]
 go_loopw [13] (fun x wr => ∃ j : Nat,j <= N /\ x = .int .i64 j /\ Hid (∀ i,i < j -> ∀ x,xs[i]? = some x -> (pOf q.l x).isNone = false) /\ Hid (Below W0.heap.size W0 wr)) (fun x _ => (N - intOf x).toNat)
 case atStart => exact ⟨0,Nat.zero_le _,rfl,hidb (fun i h => absurd h (Nat.not_lt_zero _)),hidb (Below.refl _ _)⟩
 case round =>
  obtain ⟨j,hj,rfl,HA,HB⟩ := hrel
  by_cases hlt : j < N
  ·obtain ⟨⟨c0,c1,c2',c3',c4',c5'⟩,_,_,hbw,hsz⟩ := BX.out wr HB.out
   obtain ⟨b,off,x,rfl,hbs,hx,hx64,hc⟩ := HID.out wr hbw j hlt
   have HX := hidb hx
   have hi0 : (0 : Int) <= (j : Int) := by omega
   have hi1 : (j : Int) < (N : Int) := by omega
   obtain ⟨wo,rfl⟩ : ∃ wo : World,wo = wr := ⟨_,rfl⟩
   have cf := CO.out x hx64 wo.drew HB.out.drew
   clear hx
   go_wp2
   go_region_held3 (fun W' => W'.cell? ⟨w.heap.size,0,none⟩ = some (.int .i64 pg) /\ W'.cell? ⟨w.heap.size,1,none⟩ = some (.slice A n c) /\ W'.cell? ⟨w.heap.size,2,none⟩ = some (.slice A2 n2 c2) /\ W'.cell? ⟨w.heap.size,3,none⟩ = some (.int .i64 la) /\ W'.cell? ⟨w.heap.size,4,none⟩ = some (.slice A3 n3 c3) /\ W'.cell? ⟨w.heap.size,5,none⟩ = some (.bool hd) /\ W'.cell? ⟨b,off + j,none⟩ = some (.int .i64 x)) (go_keep)
    (first | (go_at_call 80;(with_reducible refine cf.mono ?_);rintro e w3 ⟨rfl,hb3'⟩;have hb3o : Below wo.heap.size wo w3 := (Below.refl wo.heap.size wo).drew.trans hb3';have hb3 : Below W0.heap.size W0 w3 := HB.out.trans (hb3o.mono HB.out.size);obtain ⟨⟨y0,y1,y2,y3,y4,y5⟩,_,_,_,_⟩ := BX.out w3 hb3;have y7 : w3.cell? ⟨b,off + j,none⟩ = some (.int .i64 x) := (hb3o.cell (p := ⟨b,off + j,none⟩) (by show b < _;omega)).trans hc;clear hb3' hb3o))
   have HB3 := hidb hb3
   clear c0 c1 c2' c3' c4' c5' hb3 cf hbw
   cases hO : pOf q.l x with
   | none =>
    have HE : Hid (pGive q xs = (q,2)) := hidb (yvc HX.out hO)
    rw [show idxInt none = (-1 : Int) from rfl]
    obtain ⟨_,⟨r0,r1,r2,r3,r4,r5⟩,rf,hbw,_⟩ := BX.out w3 HB3.out
    have HR := hidb (HFIN.out 2 HE.out _ (xqu hbw (b := w.heap.size + 1) (by omega) (.int .i64 pg) (.slice A n c) (.slice A2 n2 c2) (.int .i64 la) (.slice A3 n3 c3) (.bool hd)))
    have rf0 := rf 0
    have rf1 := rf 1
    have rf2 := rf 2
    have rf3 := rf 3
    have rf4 := rf 4
    have rf5 := rf 5
    clear rf hO hbw
    go_wp2
    obtain ⟨t0,t1,t2,t3,t4,t5⟩ := xx0 (.int .i64 pg) (.slice A n c) (.slice A2 n2 c2) (.int .i64 la) (.slice A3 n3 c3) (.bool hd) r0 r1 r2 r3 r4 r5
    exact bodyPost_ret (v := .tuple #[.agg #[.int .i64 pg,.slice A n c,.slice A2 n2 c2,.int .i64 la,.slice A3 n3 c3,.bool hd],.int .i64 2]) (by simp [results,Tryz.results67,go_sem,t0,t1,t2,t3,t4,t5]) rfl HR.out
   | some k =>
    rw [show idxInt (some k) = (k : Int) from rfl]
    have hk0 : ¬ (k : Int) < 0 := by omega
    have HA2 : Hid (∀ i,i < j + 1 -> ∀ x,xs[i]? = some x -> (pOf q.l x).isNone = false) := hidb (fun i hi y hy => by
     by_cases e : i = j
     ·rw [e,HX.out] at hy;obtain rfl := Option.some.inj hy;rw [hO];rfl
     ·exact HA.out i (by omega) y hy)
    clear hO
    go_wp2
    go_roundw
    case rel => exact ⟨j + 1,by omega,by go_num,HA2,HB3⟩
    case measure => simp [intOf];omega
  ·obtain rfl : N = j := by omega
   obtain ⟨hP,hP',hPP,h1',h2',h3,h4,h5,h6,hpg,hla,hhd,l3⟩ := HKP.out
   have HALL : Hid (∀ x ∈ xs,(pOf q.l x).isNone = false) := hidb (fun x hx => by
    obtain ⟨i,hi,e⟩ := List.getElem_of_mem hx
    exact HA.out i (by have := HLI.out;omega) x (by rw [List.getElem?_eq_getElem hi,e]))
   obtain ⟨⟨c0,c1,c2',c3',c4',c5'⟩,_,_,hbw,hsz⟩ := BX.out wr HB.out
   obtain ⟨W1,hW1⟩ : ∃ W1,W1 = wr.alloc (.cells #[.int .i64 pg,.slice A n c,.slice A2 n2 c2,.int .i64 la,.slice A3 n3 c3,.bool hd] 35) := ⟨_,rfl⟩
   obtain ⟨tb,htb⟩ : ∃ tb,wr.heap.size = tb := ⟨_,rfl⟩
   obtain ⟨P2,hP2⟩ : ∃ P2 : Nat -> Prop,P2 = fun x => P' x /\ x ≠ tb := ⟨_,rfl⟩
   have hb1 : Below wr.heap.size wr W1 := by rw [hW1];exact (Below.refl _ _).alloc (Nat.le_refl _) _
   have hB1 : Below W0.heap.size W0 W1 := HB.out.trans (hb1.mono HB.out.size)
   have hw1 : Below w.heap.size w W1 := hbw.trans (hb1.mono hbw.size)
   have hsz0 := hbw.size
   have G0 : Hid (GvSt W1 P2 tb q.heap q.l pg la A n c A2 n2 c2 A3 n3 c3 hd ys) := hidb (by
    have hP2L : ∀ b,P' b -> b < w.heap.size -> P2 b := fun b h h2 => by rw [hP2];exact ⟨h,by omega⟩
    have q : ∀ j,W1.cell? ⟨tb,j,none⟩ = (#[Value.int .i64 pg,.slice A n c,.slice A2 n2 c2,.int .i64 la,.slice A3 n3 c3,.bool hd] : Array Value)[j]? := fun j => by rw [hW1,<- htb,World.cell?_alloc_at _ _ _ _ (by simp)]
    refine ⟨((h1'.apart (by rw [HO.out.hok.fl];omega)).weaken (fun b h => hP2L b h.1 h.2)).below hw1,Cn.below (w := w) ⟨h2'.row,fun z hz => ?_,fun x hx => hP2L _ (h2'.inp x hx) (h5 x hx),h2'.ok⟩ hw1,h3,h4,fun a ha => Nat.lt_of_lt_of_le (h5 a ha) hw1.size,fun y hy a ha => Nat.lt_of_lt_of_le (h6 y hy a ha) hw1.size,by rw [q];rfl,by rw [q];rfl,by rw [q];rfl,by rw [q];rfl,by rw [q];rfl,by rw [q];rfl,fun j => by rw [hW1,<- htb];exact xve _ _ _ j⟩
    obtain ⟨z1,z2,z3,z4,z5,z6⟩ := h2'.lists z hz
    exact ⟨z1,z2,z3,z4,fun x hx => hP2L _ (z5 x hx) (h6 z hz x hx),z6⟩)
   have HW1 := hidb hW1
   have HP2 : Hid ((∀ b,P2 b -> P b) /\ (∀ b,W1.heap.size <= b -> P2 b) /\ ¬ P2 tb /\ ¬ P2 w.heap.size /\ ¬ P2 (w.heap.size + 1) /\ W0.heap.size <= tb /\ tb < W1.heap.size) := hidb (by
    have hzw : W1.heap.size = tb + 1 := by rw [hW1];simp [htb]
    have hz0 := HB.out.size
    refine ⟨fun b h => ?_,fun b h => ?_,fun h => ?_,fun h => ?_,fun h => ?_,by omega,by omega⟩
    ·rw [hP2] at h;rw [hP'] at h;exact h.1.1
    ·rw [hP2];exact ⟨hPP b (by omega),by omega⟩
    ·rw [hP2] at h;exact h.2 rfl
    ·rw [hP2] at h;rw [hP'] at h;exact h.1.2.1 rfl
    ·rw [hP2] at h;rw [hP'] at h;exact h.1.2.2 rfl)
   have HB1 := hidb hB1
   clear hP hP' hPP h1' h2' h3 h4 h5 h6 hpg hla hhd l3 hP2 hb1 hB1 hw1 HA
   go_wp2
   rw [<- HW1.out]
   clear c0 c1 c2' c3' c4' c5' hW1 htb hbw HW1
   obtain ⟨wa,hwa⟩ : ∃ wa : World,wa = wr := ⟨_,rfl⟩
   go_loopw [28] (fun x wr => ∃ (j : Nat) (l' : PL) (B3 : Option Addr) (k3 e3 : Nat) (ys' : List CV),j <= N /\ x = .int .i64 j /\ Hid (pPuts q.l (xs.take j) = some l') /\ Hid (GvSt wr P2 tb q.heap l' pg la A n c A2 n2 c2 B3 k3 e3 hd ys') /\ Hid (Below W1.heap.size W1 wr \/ True) /\ Hid (Below W0.heap.size W0 wr) /\ W1.heap.size <= wr.heap.size) (fun x _ => (N - intOf x).toNat)
   case atStart => exact ⟨0,q.l,A3,n3,c3,ys,Nat.zero_le _,rfl,hidb rfl,G0,hidb (Or.inr trivial),HB1,Nat.le_refl _⟩
   case round =>
    obtain ⟨j,l',B3,k3,e3,ys',hj,rfl,HPU,HG,_,HBw,hsw⟩ := hrel
    by_cases hlt : j < N
    ·obtain ⟨_,⟨r0,r1,r2,r3,r4,r5⟩,_,hbw,hsz⟩ := BX.out wr HBw.out
     obtain ⟨b,off,x,rfl,hbs,hx,hx64,hc⟩ := HID.out wr hbw j hlt
     have HX := hidb hx
     have hi0 : (0 : Int) <= (j : Int) := by omega
     have hi1 : (j : Int) < (N : Int) := by omega
     obtain ⟨k,hk⟩ : ∃ k,pOf q.l x = some k := by
      have := HALL.out x (List.mem_of_getElem? hx)
      cases h : pOf q.l x with
      | none => rw [h] at this;cases this
      | some k => exact ⟨k,rfl⟩
     have hk' : pOf l' x = some k := (xj3 (xx8 _ HPU.out).1 x).trans hk
     obtain ⟨d,hd1,hdb⟩ := xwc hk'
     have hkl : k < k3 := by
      have h1 := (List.getElem?_eq_some_iff.1 hd1).1
      have h2 := HG.out.pl
      have h3 := HG.out.cn.row.1
      rw [<- h2,List.length_map,h3] at h1
      exact h1
     have hk60 : k3 <= 60000 := by
      have h1 := congrArg List.length (xx8 _ HPU.out).1
      rw [List.length_map,List.length_map] at h1
      have h2 := HG.out.pl
      have h3 := HG.out.cn.row.1
      have h4 : l'.length = k3 := by rw [<- h2,List.length_map,h3]
      have h5 := G0.out.pl
      have h6 := G0.out.cn.row.1
      have h7 : q.l.length = n3 := by rw [<- h5,List.length_map,h6]
      omega
     obtain ⟨b3,off3,y,e3',hy,_,d0,d1',d2',d3',d4⟩ := HG.out.cn.at_ hkl
     subst e3'
     have hyd : y.plain = d := by
      have h2 := HG.out.pl
      rw [<- h2,List.getElem?_map,hy] at hd1
      exact Option.some.inj hd1
     obtain ⟨wo,rfl⟩ : ∃ wo : World,wo = wr := ⟨_,rfl⟩
     have CO2 : Hid (Calls Tryz.prog 80 #[.agg #[.int .i64 pg,.slice A n c,.slice A2 n2 c2,.int .i64 la,.slice (some ⟨b3,off3,none⟩) k3 e3,.bool hd],.int .i64 x] wo.drew fun e w3 => e = .returned (.int .i64 (k : Int)) /\ Below wo.heap.size wo w3) := hidb (by
      have := xJ9 P2 pg la A A2 (some ⟨b3,off3,none⟩) n c n2 c2 k3 e3 hd ys' x wo.drew (HG.out.cn.below (Below.refl _ _).drew) (by omega) hx64
      rw [HG.out.pl,hk',show idxInt (some k) = (k : Int) from rfl] at this
      refine this.mono ?_
      rintro e w3 ⟨rfl,hb⟩
      exact ⟨rfl,(Below.refl wo.heap.size wo).drew.trans hb⟩)
     obtain ⟨c0,c1,c2',c3',c4',c5'⟩ := (⟨HG.out.t0,HG.out.t1,HG.out.t2,HG.out.t3,HG.out.t4,HG.out.t5⟩ : _ /\ _ /\ _ /\ _ /\ _ /\ _)
     have hbl := xq0 hc
     have hb3l := xq0 d0
     have htl := xq0 c0
     simp only at hbl hb3l htl
     have cf := CO2.out
     have hyy := hidb hy
     have hdd := hidb hd1
     have hkk := hidb hk
     clear CO2 hx hy hd1 hk hk' hdb r0 r1 r2 r3 r4 r5 hbw
     obtain ⟨⟨s1,s2,s3,s4⟩,yA,yn,yc,yl⟩ := y
     simp only at d0 d1' d2' d3' d4
     go_wp2
     go_region_held3 (fun W' => W'.cell? ⟨tb,0,none⟩ = some (.int .i64 pg) /\ W'.cell? ⟨tb,1,none⟩ = some (.slice A n c) /\ W'.cell? ⟨tb,2,none⟩ = some (.slice A2 n2 c2) /\ W'.cell? ⟨tb,3,none⟩ = some (.int .i64 la) /\ W'.cell? ⟨tb,4,none⟩ = some (.slice (some ⟨b3,off3,none⟩) k3 e3) /\ W'.cell? ⟨tb,5,none⟩ = some (.bool hd) /\ W'.cell? ⟨b,off + j,none⟩ = some (.int .i64 x)) (go_keep)
      (first | (go_at_call 80;(with_reducible refine cf.mono ?_);rintro e w3 ⟨rfl,hb3⟩;have HG3 := hidb (HG.out.below hb3);have y0 := HG3.out.t0;have y1 := HG3.out.t1;have y2 := HG3.out.t2;have y3 := HG3.out.t3;have y4 := HG3.out.t4;have y5 := HG3.out.t5;have y7 : w3.cell? ⟨b,off + j,none⟩ = some (.int .i64 x) := (hb3.cell (p := ⟨b,off + j,none⟩) hbl).trans hc;have HB3 := hidb hb3;clear hb3))
     have hyp : d = ((s1,s2,s3,s4),yl) := hyd.symm
     subst hyp
     have hlt3 : wo.heap.size <= w3.heap.size := HB3.out.size
     have e0 : w3.cell? ⟨b3,off3 + k * 5,none⟩ = some (.int .i64 s1) := (HB3.out.cell (p := ⟨b3,off3 + k * 5,none⟩) hb3l).trans d0
     have e1' : w3.cell? ⟨b3,off3 + k * 5 + 1,none⟩ = some (.int .i64 s2) := (HB3.out.cell (p := ⟨b3,off3 + k * 5 + 1,none⟩) hb3l).trans d1'
     have e2' : w3.cell? ⟨b3,off3 + k * 5 + 2,none⟩ = some (.int .i64 s3) := (HB3.out.cell (p := ⟨b3,off3 + k * 5 + 2,none⟩) hb3l).trans d2'
     have e3'' : w3.cell? ⟨b3,off3 + k * 5 + 3,none⟩ = some (.int .i64 s4) := (HB3.out.cell (p := ⟨b3,off3 + k * 5 + 3,none⟩) hb3l).trans d3'
     have e4' : w3.cell? ⟨b3,off3 + k * 5 + 4,none⟩ = some (.slice yA yn yc) := (HB3.out.cell (p := ⟨b3,off3 + k * 5 + 4,none⟩) hb3l).trans d4
     have hk0 : (0 : Int) <= (k : Int) := by omega
     have hk1 : (k : Int) < (k3 : Int) := by omega
     obtain ⟨g1,g2,g3,g4,g5,g6⟩ := HG3.out.cn.lists _ (List.mem_of_getElem? hyy.out)
     simp only at g1 g2 g3 g4 g5 g6
     obtain ⟨W5,hW5⟩ : ∃ W5,W5 = w3.alloc (.cells #[.int .i64 s1,.int .i64 s2,.int .i64 s3,.int .i64 s4,.slice yA yn yc] 51) := ⟨_,rfl⟩
     have hb5 : Below w3.heap.size w3 W5 := by rw [hW5];exact (Below.refl _ _).alloc (Nat.le_refl _) _
     have hsl5 : Sl W5 w3.heap.size yA yn (yl.map iv) := g1.below hb5
     have HW5 := hidb hW5
     have hb35 : b < w3.heap.size := by omega
     have hb3w : b3 < w3.heap.size := by omega
     have htw : tb < w3.heap.size := by omega
     have HBW5 : Hid (Below W0.heap.size W0 W5) := hidb (HBw.out.trans ((HB3.out.trans (hb5.mono HB3.out.size)).mono HBw.out.size))
     have HG5 := hidb (HG3.out.below hb5)
     have HK5 : Hid (∀ W,Below W5.heap.size W5 W -> W.cell? ⟨w3.heap.size,0,none⟩ = some (.int .i64 s1) /\ W.cell? ⟨w3.heap.size,1,none⟩ = some (.int .i64 s2) /\ W.cell? ⟨w3.heap.size,2,none⟩ = some (.int .i64 s3) /\ W.cell? ⟨w3.heap.size,3,none⟩ = some (.int .i64 s4) /\ W.cell? ⟨w3.heap.size,4,none⟩ = some (.slice yA yn yc)) := hidb (fun W hb => by
      have z : ∀ j,W.cell? ⟨w3.heap.size,j,none⟩ = W5.cell? ⟨w3.heap.size,j,none⟩ := fun j => hb.cell (p := ⟨w3.heap.size,j,none⟩) (by rw [hW5];simp)
      rw [z,z,z,z,z,hW5]
      simp [go_sem])
     have e7 : W5.cell? ⟨b,off + j,none⟩ = some (.int .i64 x) := (hb5.cell (p := ⟨b,off + j,none⟩) hb35).trans y7
     clear d0 d1' d2' d3' d4 c0 c1 c2' c3' c4' c5' hc cf hyd
     by_cases hin : x ∈ yl
     ·have HE : Hid (pGive q xs = (q,9)) := hidb (yzl HALL.out (yvf HPU.out HX.out hkk.out hdd.out hin))
      have ci := fun q' => q_inG yA yn yc yl x W5 q' w3.heap.size hsl5 g6 true (decide_eq_true hin)
      clear g1 g2 g3 g4 g5 hin hsl5
      go_wp2
      rw [<- HW5.out]
      obtain ⟨k50,k51,k52,k53,k54⟩ := HK5.out W5 (Below.refl _ _)
      clear hW5 hb5 e0 e1' e2' e3'' e4' y0 y1 y2 y3 y4 y5 y7
      go_quiet (first | (go_at_call 38;(with_reducible exact ci _)))
      obtain ⟨wz,hwz⟩ : ∃ wz,wz = W5.drewN nq := ⟨_,rfl⟩
      have HBz : Below W0.heap.size W0 wz := by rw [hwz];exact belowN HBW5.out nq
      rw [<- hwz]
      clear hwz e7 k50 k51 k52 k53 k54 ci
      obtain ⟨⟨c0,c1,c2',c3',c4',c5'⟩,⟨r0,r1,r2,r3,r4,r5⟩,rf,hbw,_⟩ := BX.out wz HBz
      have HR := hidb (HFIN.out 9 HE.out _ (xqu hbw (b := w.heap.size + 1) (by omega) (.int .i64 pg) (.slice A n c) (.slice A2 n2 c2) (.int .i64 la) (.slice A3 n3 c3) (.bool hd)))
      have rf0 := rf 0
      have rf1 := rf 1
      have rf2 := rf 2
      have rf3 := rf 3
      have rf4 := rf 4
      have rf5 := rf 5
      clear rf hbw
      go_wp2
      obtain ⟨t0,t1,t2,t3,t4,t5⟩ := xx0 (.int .i64 pg) (.slice A n c) (.slice A2 n2 c2) (.int .i64 la) (.slice A3 n3 c3) (.bool hd) r0 r1 r2 r3 r4 r5
      exact bodyPost_ret (v := .tuple #[.agg #[.int .i64 pg,.slice A n c,.slice A2 n2 c2,.int .i64 la,.slice A3 n3 c3,.bool hd],.int .i64 9]) (by simp [results,Tryz.results67,go_sem,t0,t1,t2,t3,t4,t5]) rfl HR.out
     ·have ci := fun q' => q_inG yA yn yc yl x W5 q' w3.heap.size hsl5 g6 false (decide_eq_false hin)
      go_wp2
      rw [<- HW5.out]
      obtain ⟨k50,k51,k52,k53,k54⟩ := HK5.out W5 (Below.refl _ _)
      clear hW5 hb5 e0 e1' e2' e3'' e4' y0 y1 y2 y3 y4 y5 y7
      go_quiet (first | (go_at_call 38;(with_reducible exact ci _)))
      obtain ⟨wz,hwz⟩ : ∃ wz,wz = W5.drewN nq := ⟨_,rfl⟩
      rw [<- hwz]
      have HG6 := hidb (HG5.out.below (w2 := wz) (by rw [hwz];exact belowN (Below.refl _ _) nq))
      have HBz : Hid (Below W0.heap.size W0 wz) := hidb (by rw [hwz];exact belowN HBW5.out nq)
      obtain ⟨k50,k51,k52,k53,k54⟩ := HK5.out wz (by rw [hwz];exact belowN (Below.refl _ _) nq)
      have hpo : POk ⟨q.heap,l',q.held⟩ := POk.puts _ HO.out HPU.out
      obtain ⟨hyl,hspan⟩ := put_len hpo hdd.out
      have hyn : yl.length = yn := by have := g1.1;simpa using this
      have HPU2 : Hid (pPuts q.l (xs.take (j + 1)) = some (l'.set k ((s1,s2,s3,s4),x :: yl))) := hidb (yve HPU.out HX.out hkk.out hdd.out hin)
      have hz5 : W5.heap.size = w3.heap.size + 1 := by rw [HW5.out];simp
      have hzw : W5.heap.size <= wz.heap.size := by rw [hwz];exact Nat.le_refl _
      have hW1z : W1.heap.size <= wz.heap.size := by omega
      have CW : Hid (∀ W A6 c6,Below wz.heap.size wz W -> W.ownsRow wz.heap.size 3 1 (.slice A6 (1 + yn) c6) (1 + yn) ([Value.int .i64 x] ++ yl.map iv) -> Calls Tryz.prog 139 #[.agg #[.int .i64 pg,.slice A n c,.slice A2 n2 c2,.int .i64 la,.slice (some ⟨b3,off3,none⟩) k3 e3,.bool hd],.int .i64 (k : Int),.agg #[.int .i64 s1,.int .i64 s2,.int .i64 s3,.int .i64 s4,.slice A6 (1 + yn) c6]] W fun e w7 => ∃ A5 c5,e = .returned (.agg #[.int .i64 pg,.slice A n c,.slice A2 n2 c2,.int .i64 la,.slice A5 k3 c5,.bool hd]) /\
        (w7.cell? ⟨tb,0,none⟩ = some (.int .i64 pg) /\ w7.cell? ⟨tb,1,none⟩ = some (.slice A n c) /\ w7.cell? ⟨tb,2,none⟩ = some (.slice A2 n2 c2) /\ w7.cell? ⟨tb,3,none⟩ = some (.int .i64 la) /\ w7.cell? ⟨tb,4,none⟩ = some (.slice (some ⟨b3,off3,none⟩) k3 e3) /\ w7.cell? ⟨tb,5,none⟩ = some (.bool hd)) /\ (∀ j,w7.frozen? ⟨tb,j,none⟩ = false) /\
        Hid (∃ ys5,GvSt ((((((w7.setCell ⟨tb,0,none⟩ (.int .i64 pg)).setCell ⟨tb,1,none⟩ (.slice A n c)).setCell ⟨tb,2,none⟩ (.slice A2 n2 c2)).setCell ⟨tb,3,none⟩ (.int .i64 la)).setCell ⟨tb,4,none⟩ (.slice A5 k3 c5)).setCell ⟨tb,5,none⟩ (.bool hd)) P2 tb q.heap (l'.set k ((s1,s2,s3,s4),x :: yl)) pg la A n c A2 n2 c2 A5 k3 c5 hd ys5 /\ Below W0.heap.size W0 ((((((w7.setCell ⟨tb,0,none⟩ (.int .i64 pg)).setCell ⟨tb,1,none⟩ (.slice A n c)).setCell ⟨tb,2,none⟩ (.slice A2 n2 c2)).setCell ⟨tb,3,none⟩ (.int .i64 la)).setCell ⟨tb,4,none⟩ (.slice A5 k3 c5)).setCell ⟨tb,5,none⟩ (.bool hd)) /\ W1.heap.size <= ((((((w7.setCell ⟨tb,0,none⟩ (.int .i64 pg)).setCell ⟨tb,1,none⟩ (.slice A n c)).setCell ⟨tb,2,none⟩ (.slice A2 n2 c2)).setCell ⟨tb,3,none⟩ (.int .i64 la)).setCell ⟨tb,4,none⟩ (.slice A5 k3 c5)).setCell ⟨tb,5,none⟩ (.bool hd)).heap.size)) := hidb (fun W A6 c6 hb ho => by
       have hbz := hb.size
       have kz := HG6.out.below hb
       have hlen : ((x :: yl).map iv).length = 1 + yn := by rw [List.length_map,List.length_cons];omega
       have ho2 : W.ownsRow wz.heap.size 3 1 (.slice A6 (1 + yn) c6) (1 + yn) ((x :: yl).map iv) := ho
       obtain ⟨q1,q2,q3⟩ := xJe ho2
       have hsl6 : Sl W W.heap.size A6 (1 + yn) ((x :: yl).map iv) := by
        have e : (x :: yl).length = 1 + yn := by rw [List.length_cons];omega
        rw [<- e] at ho2 ⊢
        exact Sl.of_own ho2
       have hip6 : InP P2 A6 := fun a ha => HP2.out.2.1 _ (by have := (ho2.lt a.block (by rw [ha];rfl)).1;omega)
       refine (xQe P2 pg la A A2 (some ⟨b3,off3,none⟩) n c n2 c2 k3 e3 hd ys' k ⟨(s1,s2,s3,s4),A6,1 + yn,c6,x :: yl⟩ W (fun b h => HP2.out.2.1 b (by omega)) kz.cn (by omega) hkl ⟨hsl6,q1,q2,q3,hip6,by show 1 + yn <= _;omega⟩ hspan).mono ?_
       rintro e w7 ⟨A5,c5,rfl,k1,k2,k3',k4,k5⟩
       have k7 := kz.below k2
       have nb := HP2.out.2.2.1
       have h7 := k2.size
       have hi6 := (((((k7.hi.aside nb 0 (.int .i64 pg)).aside nb 1 (.slice A n c)).aside nb 2 (.slice A2 n2 c2)).aside nb 3 (.int .i64 la)).aside nb 4 (.slice A5 k3 c5)).aside nb 5 (.bool hd)
       have cn6 := (((((k1.asideG nb 0 (.int .i64 pg)).asideG nb 1 (.slice A n c)).asideG nb 2 (.slice A2 n2 c2)).asideG nb 3 (.int .i64 la)).asideG nb 4 (.slice A5 k3 c5)).asideG nb 5 (.bool hd)
       obtain ⟨t0,t1,t2,t3,t4,t5⟩ := xx0 (W := w7) (b := tb) (.int .i64 pg) (.slice A n c) (.slice A2 n2 c2) (.int .i64 la) (.slice A5 k3 c5) (.bool hd) k7.t0 k7.t1 k7.t2 k7.t3 k7.t4 k7.t5
       have hBz := HBz.out.size
       refine ⟨A5,c5,rfl,⟨k7.t0,k7.t1,k7.t2,k7.t3,k7.t4,k7.t5⟩,k7.tf,hidb ⟨_,⟨hi6,cn6,?_,⟨k4,k5,fun e => ?_⟩,fun a ha => ?_,fun z hz a ha => ?_,t0,t1,t2,t3,t4,t5,fun j => ?_⟩,xqu ((HBz.out.trans (hb.mono hBz)).trans (k2.mono (by omega))) HP2.out.2.2.2.2.2.1 _ _ _ _ _ _,?_⟩⟩
       ·show (ys'.set k _).map CV.plain = l'.set k _
        rw [List.map_set,HG6.out.pl];rfl
       ·obtain ⟨b5,off5,_,_,e5,_⟩ := RowOf.at_ k1.row hkl
        rw [e] at e5;cases e5
       ·obtain ⟨b5,off5,e5,hb5',_⟩ := k1.row.2 (by omega)
        rw [ha] at e5
        injection e5 with e5
        rw [e5]
        simpa using hb5'
       ·have hzz : z.A = none \/ InP (· < w7.heap.size) z.A := by
         rcases List.mem_or_eq_of_mem_set hz with hz | rfl
         ·exact Or.inr (fun a ha => Nat.lt_of_lt_of_le (kz.ya z hz a ha) h7)
         ·exact Or.inr (fun a ha => Nat.lt_of_lt_of_le (ho2.lt a.block (by have ha' : A6 = some a := ha;rw [ha'];rfl)).2 h7)
        rcases hzz with h | h
        ·rw [h] at ha;cases ha
        ·have := h a ha
         simpa using this
       ·simp only [World.frozen?_setCell];exact k7.tf j
       ·simp;omega)
      have HCY : Hid (∀ W,Below wz.heap.size wz W -> CellsAt W yA (yl.map iv)) := hidb (fun W hb => by
       have h := (HG6.out.below hb).cn.lists _ (List.mem_of_getElem? hyy.out)
       exact Sl.cellsAtG h.1)
      have HLY : Hid ((yl.map iv).length = yn * 1) := hidb (by rw [List.length_map];omega)
      have HAY : Hid (yA = none -> yn = 0 /\ yc = 0) := hidb (fun e => by
       refine ⟨Nat.eq_zero_of_not_pos fun hp => ?_,g4 e⟩
       obtain ⟨b9,o9,e9,_⟩ := g1.2 hp
       rw [e] at e9;cases e9)
      have HOY : Hid (∀ u ∈ yl.map iv,u.oneCell' = true) := hidb (iv_oneG yl)
      have HK6 : Hid (∀ W,Below wz.heap.size wz W -> (W.cell? ⟨w3.heap.size,0,none⟩ = some (.int .i64 s1) /\ W.cell? ⟨w3.heap.size,1,none⟩ = some (.int .i64 s2) /\ W.cell? ⟨w3.heap.size,2,none⟩ = some (.int .i64 s3) /\ W.cell? ⟨w3.heap.size,3,none⟩ = some (.int .i64 s4) /\ W.cell? ⟨w3.heap.size,4,none⟩ = some (.slice yA yn yc)) /\
        (W.cell? ⟨tb,0,none⟩ = some (.int .i64 pg) /\ W.cell? ⟨tb,1,none⟩ = some (.slice A n c) /\ W.cell? ⟨tb,2,none⟩ = some (.slice A2 n2 c2) /\ W.cell? ⟨tb,3,none⟩ = some (.int .i64 la) /\ W.cell? ⟨tb,4,none⟩ = some (.slice (some ⟨b3,off3,none⟩) k3 e3) /\ W.cell? ⟨tb,5,none⟩ = some (.bool hd)) /\ W.cell? ⟨b,off + j,none⟩ = some (.int .i64 x)) := hidb (fun W hb => by
       have kz := HG6.out.below hb
       have hbb : Below W5.heap.size W5 W := by
        have : Below W5.heap.size W5 wz := by rw [hwz];exact belowN (Below.refl _ _) nq
        exact this.trans (hb.mono this.size)
       exact ⟨HK5.out W hbb,⟨kz.t0,kz.t1,kz.t2,kz.t3,kz.t4,kz.t5⟩,(hbb.cell (p := ⟨b,off + j,none⟩) (by show b < W5.heap.size;omega)).trans e7⟩)
      obtain ⟨⟨k50,k51,k52,k53,k54⟩,⟨j0,j1',j2',j3,j4,j5⟩,e8⟩ := HK6.out wz (Below.refl _ _)
      obtain ⟨i0',hji,hjz0,hjz1,hjz2⟩ := info_parts xqw
      have hbz : b < wz.heap.size := by omega
      have htz : tb < wz.heap.size := by omega
      have hwz3 : w3.heap.size < wz.heap.size := by omega
      clear hwz g1 g2 g3 g4 g5 hyn hpo e7 hin HBz HG6 HK5 HG5 HW5 HBW5 HG3 HB3 hdd hyy HPU HG HBw HX HALL BX HID HFIN CO HKP HO HZ HP2 hz5 hzw hW1z hlt3 hb35 hb3w htw hbl hb3l htl hsw hsz hsl5 ci hspan G0 HB1
      go_wp2
      go_region_law
       (first
        | (refine xqa rfl (.tmp 58) (.tmp 60) 38 rfl wz.heap.size 3 i0' (.int .i64 0) 1 8 Tryz.underlying38 hji hjz0 hjz1 hjz2 rfl (by decide) _ 1 [Value.int .i64 x] rfl (by first | exact (yqr _ _ _ _ _ (by first | rfl | simp) (by first | exact Nat.le_refl _ | simp)).drew | exact yqr _ _ _ _ _ (by first | rfl | simp) (by first | exact Nat.le_refl _ | simp)) (by first | exact Nat.le_refl _ | omega | (simp;done) | (simp;omega)) yA yn yc (yl.map iv) rfl HLY.out HAY.out (HCY.out _ (by repeat (first | assumption | exact Below.refl _ _ | refine Below.drew ?_ | refine Below.alloc ?_ (by first | omega | (simp;done) | (simp;omega)) _))) HOY.out (by unfold maxLen;omega) (by omega) ?_;intro A6 c6 w6 hown6 hg6;have hB6 : Below wz.heap.size wz w6 := Below.grown (by repeat (first | assumption | exact Below.refl _ _ | refine Below.drew ?_ | refine Below.alloc ?_ (by first | omega | (simp;done) | (simp;omega)) _)) hg6 (by first | omega | (simp;done) | (simp;omega)) (fun q hq => xJd hq (by first | exact Nat.le_refl _ | omega | (simp;done) | (simp;omega)));obtain ⟨⟨m0,m1,m2,m3,m4⟩,⟨n0',n1',n2',n3',n4',n5'⟩,e9⟩ := HK6.out w6 hB6)
        | (go_simp;go_at_call 139;(with_reducible refine (CW.out _ A6 c6 hB6 hown6).mono ?_);rintro e w7 ⟨A5,c5,rfl,⟨z0,z1,z2,z3,z4,z5⟩,zf,HN⟩;have zf0 := zf 0;have zf1 := zf 1;have zf2 := zf 2;have zf3 := zf 3;have zf4 := zf 4;have zf5 := zf 5;clear zf))
      all_goals
       obtain ⟨ys5,hG5,hB5,hS5⟩ := HN.out
       have HG5 := hidb hG5
       have HB5 := hidb hB5
       have HS5 := hidb hS5
       clear HN hG5 hB5 hS5 z0 z1 z2 z3 z4 z5 zf0 zf1 zf2 zf3 zf4 zf5
       go_wp2
       go_roundw
       case rel => exact ⟨j + 1,_,_,_,_,ys5,by omega,by go_num,HPU2,HG5,hidb (Or.inr trivial),HB5,HS5.out⟩
       case measure => simp [intOf];omega
    ·obtain rfl : N = j := by omega
     by_cases hN0 : N = 0
     ·subst hN0
      have hx0 : xs = [] := List.eq_nil_of_length_eq_zero HLI.out
      have HE : Hid (pGive q xs = (q,0)) := hidb (by rw [hx0];rfl)
      obtain ⟨⟨c0,c1,c2',c3',c4',c5'⟩,⟨r0,r1,r2,r3,r4,r5⟩,rf,hbw,_⟩ := BX.out wr HBw.out
      have HR := hidb (HFIN.out 0 HE.out _ (xqu hbw (b := w.heap.size + 1) (by omega) (.int .i64 pg) (.slice A n c) (.slice A2 n2 c2) (.int .i64 la) (.slice A3 n3 c3) (.bool hd)))
      have rf0 := rf 0
      have rf1 := rf 1
      have rf2 := rf 2
      have rf3 := rf 3
      have rf4 := rf 4
      have rf5 := rf 5
      clear rf hbw
      go_wp2
      obtain ⟨t0,t1,t2,t3,t4,t5⟩ := xx0 (.int .i64 pg) (.slice A n c) (.slice A2 n2 c2) (.int .i64 la) (.slice A3 n3 c3) (.bool hd) r0 r1 r2 r3 r4 r5
      exact bodyPost_ret (v := .tuple #[.agg #[.int .i64 pg,.slice A n c,.slice A2 n2 c2,.int .i64 la,.slice A3 n3 c3,.bool hd],.int .i64 0]) (by simp [results,Tryz.results67,go_sem,t0,t1,t2,t3,t4,t5]) rfl HR.out
     ·have hx0 : xs ≠ [] := fun e => hN0 (by have := HLI.out;rw [e] at this;simpa using this.symm)
      have hpu : pPuts q.l xs = some l' := by have := HPU.out;rwa [List.take_of_length_le (by have := HLI.out;omega)] at this
      have HE : Hid (pGive q xs = (pSweep ⟨q.heap,l',q.held⟩,0)) := hidb (yvd HALL.out hpu hx0)
      have hpo : POk ⟨q.heap,l',q.held⟩ := POk.puts xs HO.out hpu
      obtain ⟨hP,hP',hPP,h1',h2',h3,h4,h5,h6,hpg,hla,hhd,l3⟩ := HKP.out
      have hll : l'.length <= 60000 := by
       have h1 := congrArg List.length (xx8 _ hpu).1
       rw [List.length_map,List.length_map] at h1
       have h7 : q.l.length = n3 := by rw [<- h3,List.length_map,l3]
       omega
      obtain ⟨q',hq'⟩ : ∃ q',pSweep ⟨q.heap,l',q.held⟩ = q' := ⟨_,rfl⟩
      have CS : Hid (Calls Tryz.prog 140 #[.agg #[.int .i64 pg,.slice A n c,.slice A2 n2 c2,.int .i64 la,.slice B3 k3 e3,.bool hd]] wr fun e w5 => ∃ g0 C k1 e1 C2 k2 e2 g3 C3 k3' e3' g5,e = .returned (.agg #[.int .i64 g0,.slice C k1 e1,.slice C2 k2 e2,.int .i64 g3,.slice C3 k3' e3',.bool g5]) /\ Hid (PoIs w5 P2 q' (.agg #[.int .i64 g0,.slice C k1 e1,.slice C2 k2 e2,.int .i64 g3,.slice C3 k3' e3',.bool g5])) /\ Hid (Below wr.heap.size wr w5)) := hidb (by
       have := xXy P2 ⟨q.heap,l',q.held⟩ _ wr (fun b hb => HP2.out.2.1 b (by omega)) hpo (by have := HG.out.isv hpg hla;rw [<- hhd] at this;exact this) (by show l'.length <= 65536;omega) (by show q.heap.l.length <= 65536;omega) hla0
       rw [hq',hhd] at this
       refine this.mono ?_
       rintro e w5 ⟨v',rfl,hp,hb⟩
       have hp2 := hp
       obtain ⟨C,k1,e1,C2,k2,e2,C3,k3',e3',ys2,rfl,_⟩ := hp
       exact ⟨_,C,k1,e1,C2,k2,e2,_,C3,k3',e3',_,rfl,hidb hp2,hidb hb⟩)
      obtain ⟨c0,c1,c2',c3',c4',c5'⟩ := (⟨HG.out.t0,HG.out.t1,HG.out.t2,HG.out.t3,HG.out.t4,HG.out.t5⟩ : _ /\ _ /\ _ /\ _ /\ _ /\ _)
      have hNN : ¬ (N : Int) = 0 := by omega
      have HEQ := hidb hq'
      clear hP hP' hPP h1' h2' h3 h4 h5 h6 hpg hla hhd l3 hll hpo hpu hx0 hq' hN0
      go_wp2_with (first
       | (go_at_call 140;(with_reducible refine CS.out.mono ?_);rintro e w5 ⟨g0,C,k1,e1,C2,k2,e2,g3,C3,k3',e3',g5,rfl,HP5,HB5⟩;obtain ⟨_,⟨r0,r1,r2,r3,r4,r5⟩,rf,hbw,_⟩ := BX.out w5 (HBw.out.trans (HB5.out.mono HBw.out.size));have HBW := hidb hbw;have rf0 := rf 0;have rf1 := rf 1;have rf2 := rf 2;have rf3 := rf 3;have rf4 := rf 4;have rf5 := rf 5;clear rf hbw))
      obtain ⟨t0,t1,t2,t3,t4,t5⟩ := xx0 (.int .i64 g0) (.slice C k1 e1) (.slice C2 k2 e2) (.int .i64 g3) (.slice C3 k3' e3') (.bool g5) r0 r1 r2 r3 r4 r5
      have nb := HP2.out.2.2.2.2.1
      have HFI := hidb ((((((HP5.out.aside nb 0 (.int .i64 g0)).aside nb 1 (.slice C k1 e1)).aside nb 2 (.slice C2 k2 e2)).aside nb 3 (.int .i64 g3)).aside nb 4 (.slice C3 k3' e3')).aside nb 5 (.bool g5) |>.weaken HP2.out.1)
      have HFB := hidb (xqu HBW.out (b := w.heap.size + 1) (by omega) (.int .i64 g0) (.slice C k1 e1) (.slice C2 k2 e2) (.int .i64 g3) (.slice C3 k3' e3') (.bool g5))
      refine bodyPost_ret (v := .tuple #[.agg #[.int .i64 g0,.slice C k1 e1,.slice C2 k2 e2,.int .i64 g3,.slice C3 k3' e3',.bool g5],.int .i64 0]) (by simp [results,Tryz.results67,go_sem,t0,t1,t2,t3,t4,t5]) rfl ?_
      rw [HE.out,HEQ.out]
      exact ⟨_,rfl,HFI.out,HFB.out⟩
end Go.Proofs.YtlcdgmjinhbncaaGreat
