import Derived.Test.YtlcdgmjinhbncaaGreatRNamedMap
import Derived.Test.YtlcdgmjinhbncaaGreatRRowWords
import Derived.Deep.RegionHeld3
namespace Go.Proofs.YtlcdgmjinhbncaaGreat
set_option linter.unusedVariables false
def Links (w : List Nat) : Int -> List Int -> Prop
 | h,[] => h = 0
 | h,a :: l => h = a + 1 /\ 0 <= a /\ a < (w.length : Int) /\ Links w (w.getD a.toNat 0 : Nat) l
theorem Links.range {w : List Nat} : ∀ {h : Int} {l : List Int},Links w h l -> 0 <= h /\ h <= (w.length : Int)
 | h,[],e => by
  have e2 : h = 0 := e
  omega
 | h,a :: l,e => by obtain ⟨h1,h2,h3,_⟩ := e;omega
theorem yqm {w : List Nat} : ∀ {l : List Int} {h : Int} {out : List Int} {k : Nat},Links w h l -> (out ++ l).Nodup -> l.length < k -> cGo w ((out.length : Int) + l.length) k h out = some (out ++ l)
 | [],h,out,0,_,_,hk => absurd hk (by simp)
 | [],h,out,k + 1,e,_,_ => by
  obtain rfl : h = 0 := e
  rw [yq8,if_pos (by simp),List.append_nil]
 | a :: l,h,out,0,_,_,hk => absurd hk (by simp)
 | a :: l,h,out,k + 1,e,hd,hk => by
  obtain ⟨h1,h2,h3,h4⟩ := e
  have h5 := h4.range
  have hlt : a.toNat < w.length := by omega
  have ha : h - 1 = a := by omega
  have hx : w[(h - 1).toNat]? = some (w.getD a.toNat 0) := by
   rw [ha,List.getD_eq_getElem?_getD,List.getElem?_eq_getElem hlt];rfl
  have hna : a ∉ out := fun c => (List.nodup_append.1 hd).2.2 a c a (List.mem_cons_self ..) rfl
  rw [yq9 w _ k h out _ (by omega) (by
   rw [ha];simp only [not_or]
   refine ⟨by omega,by omega,hna,?_⟩
   simp only [List.length_cons];omega) hx (by omega),ha]
  have e2 : out ++ a :: l = (out ++ [a]) ++ l := by simp
  have ih := yqm (l := l) (out := out ++ [a]) (k := k) h4 (by rw [<- e2];exact hd) (by simpa using hk)
  rw [e2,<- ih]
  congr 1
  simp only [List.length_append,List.length_cons,List.length_nil]
  omega
theorem yqn {w : List Nat} {len : Int} : ∀ {k : Nat} {h : Int} {out l : List Int},cGo w len k h out = some l -> ∃ m,l = out ++ m /\ Links w h m
 | 0,h,out,l,e => by cases e
 | k + 1,h,out,l,e => by
  by_cases h0 : h = 0
  ·subst h0
   rw [yq8] at e
   split at e
   ·obtain rfl := Option.some.inj e
    exact ⟨[],by simp,rfl⟩
   ·cases e
  ·by_cases h1 : h < 0 \/ (w.length : Int) < h \/ (h - 1) ∈ out \/ len <= (out.length : Int)
   ·rw [cGo_bad w len k h out h0 h1] at e;cases e
   ·have hlt : (h - 1).toNat < w.length := by simp only [not_or] at h1;omega
    have hx : w[(h - 1).toNat]? = some (w.getD (h - 1).toNat 0) := by rw [List.getD_eq_getElem?_getD,List.getElem?_eq_getElem hlt];rfl
    by_cases h2 : w.length < w.getD (h - 1).toNat 0
    ·rw [cGo_far w len k h out _ h0 hx h2] at e;cases e
    ·rw [yq9 w len k h out _ h0 h1 hx h2] at e
     obtain ⟨m,e1,e2⟩ := yqn e
     simp only [not_or] at h1
     exact ⟨(h - 1) :: m,by rw [e1];simp,by omega,by omega,by omega,e2⟩
theorem xqh {w : List Nat} {h len : Int} {l : List Int} : cList w (h,len) = some l ↔ Links w h l /\ l.Nodup /\ (l.length : Int) = len := by
 constructor
 ·intro e
  obtain ⟨h1,_,h3⟩ := xqr e
  obtain ⟨m,e1,e2⟩ := yqn (show cGo w len (len.toNat + 1) h [] = some l from e)
  obtain rfl : l = m := by simpa using e1
  exact ⟨e2,h1,h3⟩
 ·rintro ⟨h1,h2,rfl⟩
  have := yqm (out := []) (k := (l.length : Int).toNat + 1) h1 (by simpa using h2) (by simp)
  simpa [cList] using this
theorem xxl (w : List Nat) (i j x : Nat) (h : i ≠ j) : (w.set i x).getD j 0 = w.getD j 0 := by
 rw [List.getD_eq_getElem?_getD,List.getElem?_set,if_neg h,List.getD_eq_getElem?_getD]
theorem xj1 (w : List Nat) (i x : Nat) (h : i < w.length) : (w.set i x).getD i 0 = x := by
 rw [List.getD_eq_getElem?_getD,List.getElem?_set,if_pos rfl,if_pos h];rfl
theorem Links.set_ {w : List Nat} {a : Int} {x : Nat} (h0 : 0 <= a) : ∀ {h : Int} {l : List Int},a ∉ l -> Links w h l -> Links (w.set a.toNat x) h l
 | h,[],_,e => e
 | h,b :: l,hn,e => by
  obtain ⟨h1,h2,h3,h4⟩ := e
  have hb : a ≠ b := fun e => hn (by rw [e];exact List.mem_cons_self ..)
  refine ⟨h1,h2,by rw [List.length_set];exact h3,?_⟩
  rw [xxl _ _ _ _ (by omega)]
  exact Links.set_ h0 (fun c => hn (List.mem_cons_of_mem _ c)) h4
theorem Links.step {w : List Nat} {h : Int} {l : List Int} {a : Int} (k : Links w h l) (hn : a ∉ l) (h0 : 0 <= a) (h1 : a < (w.length : Int)) : Links (w.set a.toNat h.toNat) (a + 1) (a :: l) := by
 refine ⟨rfl,h0,by rw [List.length_set];exact h1,?_⟩
 rw [xj1 _ _ _ (by omega)]
 have := k.range
 rw [Int.toNat_of_nonneg this.1]
 exact k.set_ h0 hn
theorem xXg : ∀ {m : List Int} {s : List Nat × (Int × Int)} {l : List Int},Links s.1 s.2.1 l -> (m ++ l).Nodup -> (∀ x ∈ m,0 <= x /\ x < (s.1.length : Int)) -> Links (cAll s m).1 (cAll s m).2.1 (m.reverse ++ l)
 | [],s,l,k,_,_ => by simpa [cAll] using k
 | a :: m,s,l,k,hd,hr => by
  have ha := hr a (List.mem_cons_self ..)
  obtain ⟨hd1,hd2⟩ := List.nodup_cons.1 (show (a :: (m ++ l)).Nodup from hd)
  have hal : a ∉ l := fun c => hd1 (List.mem_append_right _ c)
  have hperm : (m ++ a :: l).Nodup := (List.perm_middle.nodup_iff).2 hd
  have k2 : Links (cStep s a).1 (cStep s a).2.1 (a :: l) := k.step hal ha.1 ha.2
  have := xXg (m := m) (s := cStep s a) (l := a :: l) k2 hperm (fun x hx => by
   rw [xvu];exact hr x (List.mem_cons_of_mem _ hx))
  rw [List.reverse_cons,List.append_assoc]
  exact this
theorem xvf : ∀ {m : List Int} {s : List Nat × (Int × Int)} {i : Nat},(i : Int) ∉ m -> (∀ x ∈ m,0 <= x) -> (cAll s m).1.getD i 0 = s.1.getD i 0
 | [],s,i,_,_ => rfl
 | a :: m,s,i,hn,hr => by
  have ha := hr a (List.mem_cons_self ..)
  have hne : a.toNat ≠ i := fun e => hn (by rw [<- e,Int.toNat_of_nonneg ha];exact List.mem_cons_self ..)
  have := xvf (m := m) (s := cStep s a) (i := i) (fun c => hn (List.mem_cons_of_mem _ c)) (fun x hx => hr x (List.mem_cons_of_mem _ hx))
  show (cAll (cStep s a) m).1.getD i 0 = _
  rw [this]
  exact xxl _ _ _ _ hne
theorem xKj {w : List Nat} {c : Int × Int} {l m : List Int} (h : cList w c = some l) (hd : (m ++ l).Nodup) (hr : ∀ x ∈ m,0 <= x /\ x < (w.length : Int)) : cList (cAll (w,c) m).1 (cAll (w,c) m).2 = some (m.reverse ++ l) := by
 obtain ⟨h0,len⟩ := c
 obtain ⟨h1,h2,h3⟩ := xqh.1 h
 have k := xXg (m := m) (s := (w,(h0,len))) h1 hd hr
 refine xqh.2 ⟨k,?_,?_⟩
 ·exact ((List.reverse_perm m).append_right l).nodup_iff.2 hd
 ·rw [xvc];simp only [List.length_append,List.length_reverse];omega
theorem xvv {w : List Nat} {c : Int × Int} {l : List Int} {a : Int} (h : cList w c = some l) (ha : a ∈ l) :
  cList (cWithout w l a).1 (cWithout w l a).2 = some (l.filter (fun x => x != a)) /\ (cWithout w l a).1.getD a.toNat 0 = 0 /\ (∀ i : Nat,(i : Int) ∉ l -> (cWithout w l a).1.getD i 0 = w.getD i 0) /\ (cWithout w l a).1.length = w.length := by
 obtain ⟨hd,hr,hlen⟩ := xqr h
 have har := hr a ha
 have hrev : (l.reverse.filter (fun x => x != a)) = (l.filter (fun x => x != a)).reverse := by rw [List.filter_reverse]
 have hm : ∀ x ∈ (l.filter (fun x => x != a)).reverse,x ∈ l /\ x ≠ a := fun x hx => by
  have := List.mem_filter.1 (List.mem_reverse.1 hx)
  exact ⟨this.1,by simpa using this.2⟩
 unfold cWithout
 rw [hrev]
 refine ⟨?_,?_,fun i hi => ?_,?_⟩
 ·have h0 : cList (w.set a.toNat 0) (0,0) = some [] := xqh.2 ⟨rfl,List.nodup_nil,rfl⟩
  have hnd : ((l.filter (fun x => x != a)).reverse ++ []).Nodup := by
   rw [List.append_nil]
   exact (List.reverse_perm _).nodup_iff.2 (hd.filter _)
  have := xKj (m := (l.filter (fun x => x != a)).reverse) h0 hnd (fun x hx => by
   rw [List.length_set];exact hr x (hm x hx).1)
  rw [List.reverse_reverse,List.append_nil] at this
  exact this
 ·rw [xvf (fun c => by
   have := (hm _ c).2
   rw [Int.toNat_of_nonneg har.1] at this
   exact this rfl) (fun x hx => (hr x (hm x hx).1).1)]
  exact xj1 _ _ _ (by omega)
 ·rw [xvf (fun c => hi (hm _ c).1) (fun x hx => (hr x (hm x hx).1).1)]
  exact xxl _ _ _ _ (fun e => hi (by rw [<- e,Int.toNat_of_nonneg har.1];exact ha))
 ·rw [xzy,List.length_set]
def asInt (x : Nat) : Int := if x < 9223372036854775808 then (x : Int) else (x : Int) - 18446744073709551616
def Wide (w : List Nat) : Prop := ∀ x ∈ w,x < 18446744073709551616
def fGo (w : List Nat) : Nat -> Int -> List Int -> Option (List Int)
 | 0,_,_ => none
 | k + 1,h,out =>
  if h = 0 then some out
  else if h < 0 \/ (w.length : Int) < h \/ (h - 1) ∈ out then none
  else fGo w k (asInt (w.getD (h - 1).toNat 0)) (out ++ [h - 1])
def cfList (w : List Nat) (h : Int) : Option (List Int) := fGo w (w.length + 1) h []
theorem xZy (w : List Nat) (k : Nat) (out : List Int) : fGo w (k + 1) 0 out = some out := by simp [fGo]
theorem ykc (w : List Nat) (k : Nat) (h : Int) (out : List Int) (h0 : h ≠ 0) (h1 : h < 0 \/ (w.length : Int) < h \/ (h - 1) ∈ out) : fGo w (k + 1) h out = none := by
 unfold fGo;rw [if_neg h0,if_pos h1]
theorem xZz (w : List Nat) (k : Nat) (h : Int) (out : List Int) (x : Nat) (h0 : h ≠ 0) (h1 : ¬ (h < 0 \/ (w.length : Int) < h \/ (h - 1) ∈ out)) (hx : w[(h - 1).toNat]? = some x) : fGo w (k + 1) h out = fGo w k (asInt x) (out ++ [h - 1]) := by
 have e : w.getD (h - 1).toNat 0 = x := by rw [List.getD_eq_getElem?_getD,hx];rfl
 conv => lhs;unfold fGo
 rw [if_neg h0,if_neg h1,e]
theorem xKk {w : List Nat} (hw : Wide w) : ∀ {k : Nat} {h : Int} {out l : List Int},out.Nodup -> fGo w k h out = some l -> (∃ m,l = out ++ m /\ Links w h m) /\ l.Nodup
 | 0,h,out,l,_,e => by cases e
 | k + 1,h,out,l,hd,e => by
  by_cases h0 : h = 0
  ·subst h0
   rw [xZy] at e
   obtain rfl := Option.some.inj e
   exact ⟨⟨[],by simp,rfl⟩,hd⟩
  ·by_cases h1 : h < 0 \/ (w.length : Int) < h \/ (h - 1) ∈ out
   ·rw [ykc w k h out h0 h1] at e;cases e
   ·have hlt : (h - 1).toNat < w.length := by simp only [not_or] at h1;omega
    have hx : w[(h - 1).toNat]? = some (w.getD (h - 1).toNat 0) := by rw [List.getD_eq_getElem?_getD,List.getElem?_eq_getElem hlt];rfl
    have hb := hw _ (List.mem_of_getElem? hx)
    rw [xZz w k h out _ h0 h1 hx] at e
    simp only [not_or] at h1
    obtain ⟨⟨m,e1,e2⟩,e3⟩ := xKk hw (List.nodup_append.2 ⟨hd,by simp,fun a ha b hb' => by
     obtain rfl := List.mem_singleton.1 hb'
     exact fun e => h1.2.2 (e ▸ ha)⟩) e
    have hr := e2.range
    have hs : asInt (w.getD (h - 1).toNat 0) = (w.getD (h - 1).toNat 0 : Nat) := by
     unfold asInt at hr ⊢
     split
     ·rfl
     ·rename_i hc
      rw [if_neg hc] at hr
      omega
    rw [hs] at e2
    exact ⟨⟨(h - 1) :: m,by rw [e1];simp,by omega,by omega,by omega,e2⟩,e3⟩
theorem xKl {w : List Nat} (hn : w.length <= 65536) : ∀ {l : List Int} {h : Int} {out : List Int} {k : Nat},Links w h l -> (out ++ l).Nodup -> l.length < k -> fGo w k h out = some (out ++ l)
 | [],h,out,0,_,_,hk => absurd hk (by simp)
 | [],h,out,k + 1,e,_,_ => by
  obtain rfl : h = 0 := e
  rw [xZy,List.append_nil]
 | a :: l,h,out,0,_,_,hk => absurd hk (by simp)
 | a :: l,h,out,k + 1,e,hd,hk => by
  obtain ⟨h1,h2,h3,h4⟩ := e
  have h5 := h4.range
  have hlt : a.toNat < w.length := by omega
  have ha : h - 1 = a := by omega
  have hx : w[(h - 1).toNat]? = some (w.getD a.toNat 0) := by
   rw [ha,List.getD_eq_getElem?_getD,List.getElem?_eq_getElem hlt];rfl
  have hna : a ∉ out := fun c => (List.nodup_append.1 hd).2.2 a c a (List.mem_cons_self ..) rfl
  have hs : asInt (w.getD a.toNat 0) = (w.getD a.toNat 0 : Nat) := by
   unfold asInt;rw [if_pos (by omega)]
  rw [xZz w k h out _ (by omega) (by
   rw [ha];simp only [not_or]
   exact ⟨by omega,by omega,hna⟩) hx,ha,hs]
  have e2 : out ++ a :: l = (out ++ [a]) ++ l := by simp
  rw [e2]
  exact xKl hn (l := l) (out := out ++ [a]) (k := k) h4 (by rw [<- e2];exact hd) (by simpa using hk)
theorem Links.mem {w : List Nat} : ∀ {h : Int} {l : List Int},Links w h l -> ∀ x ∈ l,0 <= x /\ x < (w.length : Int)
 | h,[],_,x,hx => by cases hx
 | h,a :: l,e,x,hx => by
  obtain ⟨h1,h2,h3,h4⟩ := e
  rcases List.mem_cons.1 hx with rfl | hx
  ·exact ⟨h2,h3⟩
  ·exact h4.mem x hx
theorem xka {w : List Nat} {h : Int} {l : List Int} (hw : Wide w) (hn : w.length <= 65536) : cfList w h = some l ↔ Links w h l /\ l.Nodup := by
 constructor
 ·intro e
  obtain ⟨⟨m,e1,e2⟩,e3⟩ := xKk hw List.nodup_nil (show fGo w (w.length + 1) h [] = some l from e)
  obtain rfl : l = m := by simpa using e1
  exact ⟨e2,e3⟩
 ·rintro ⟨h1,h2⟩
  have h3 := xzb w.length l h2 h1.mem
  have := xKl hn (out := []) (k := w.length + 1) h1 (by simpa using h2) (by omega)
  simpa [cfList] using this
theorem cList_of {w : List Nat} {h len : Int} (hw : Wide w) (hn : w.length <= 65536) : cList w (h,len) = (cfList w h).filter (fun l => decide ((l.length : Int) = len)) := by
 cases hf : cfList w h with
 | none =>
  cases hc : cList w (h,len) with
  | none => rfl
  | some l =>
   obtain ⟨h1,h2,_⟩ := xqh.1 hc
   rw [(xka hw hn).2 ⟨h1,h2⟩] at hf
   cases hf
 | some l =>
  obtain ⟨h1,h2⟩ := (xka hw hn).1 hf
  by_cases hl : (l.length : Int) = len
  ·rw [xqh.2 ⟨h1,h2,hl⟩]
   simp [Option.filter,hl]
  ·cases hc : cList w (h,len) with
   | none => simp [Option.filter,hl]
   | some l2 =>
    obtain ⟨h3,h4,h5⟩ := xqh.1 hc
    have := (xka hw hn).2 ⟨h3,h4⟩
    rw [hf] at this
    obtain rfl := Option.some.inj this
    exact absurd h5 hl
theorem Wide.set {w : List Nat} (hw : Wide w) (i : Nat) {x : Nat} (hx : x < 18446744073709551616) : Wide (w.set i x) := fun y hy => by
 rcases List.mem_or_eq_of_mem_set hy with h | h
 ·exact hw y h
 ·rw [h];exact hx
theorem Wide.cAll : ∀ {l : List Int} {s : List Nat × (Int × Int)},Wide s.1 -> s.2.1.toNat < 18446744073709551616 -> (∀ x ∈ l,x < 65536) -> Wide (cAll s l).1
 | [],s,h,_,_ => h
 | a :: l,s,h,h1,h2 => by
  have := h2 a (List.mem_cons_self ..)
  exact Wide.cAll (s := cStep s a) (h.set _ h1) (by show (a + 1).toNat < _;omega) (fun x hx => h2 x (List.mem_cons_of_mem _ hx))
def kWords (w : List Nat) (l : List Int) (i : Nat) : List Nat :=
 (if i = 0 then w else w.set (l.getD (i - 1) 0).toNat (w.getD (l.getD i 0).toNat 0)).set (l.getD i 0).toNat 0
def kHead (w : List Nat) (h : Int) (l : List Int) (i : Nat) : Int := if i = 0 then (w.getD (l.getD i 0).toNat 0 : Nat) else h
theorem Links.same {w w' : List Nat} : ∀ {l : List Int} {h h' : Int},Links w h l -> Links w' h' l -> h = h' /\ ∀ x ∈ l,w.getD x.toNat 0 = w'.getD x.toNat 0
 | [],h,h',e,e' => ⟨by have e1 : h = 0 := e;have e2 : h' = 0 := e';omega,fun x hx => by cases hx⟩
 | a :: l,h,h',e,e' => by
  obtain ⟨h1,h2,h3,h4⟩ := e
  obtain ⟨g1,g2,g3,g4⟩ := e'
  obtain ⟨e1,e2⟩ := h4.same g4
  refine ⟨by omega,fun x hx => ?_⟩
  rcases List.mem_cons.1 hx with rfl | hx
  ·omega
  ·exact e2 x hx
theorem Links.relink {w : List Nat} {b : Int} {x : Nat} {r r' : List Int} : ∀ {p : List Int} {h : Int},Links w h (p ++ b :: r) -> b ∉ p -> Links w (x : Int) r' -> b ∉ r' -> Links (w.set b.toNat x) h (p ++ b :: r')
 | [],h,e,_,hr,hb => by
  obtain ⟨h1,h2,h3,h4⟩ := e
  refine ⟨h1,h2,by rw [List.length_set];exact h3,?_⟩
  rw [xj1 _ _ _ (by omega)]
  exact hr.set_ h2 hb
 | c :: p,h,e,hn,hr,hb => by
  have hb0 : 0 <= b := (Links.mem e b (by simp)).1
  obtain ⟨h1,h2,h3,h4⟩ := e
  have hc : b ≠ c := fun e => hn (by rw [e];exact List.mem_cons_self ..)
  refine ⟨h1,h2,by rw [List.length_set];exact h3,?_⟩
  rw [xxl _ _ _ _ (by omega)]
  exact Links.relink h4 (fun c => hn (List.mem_cons_of_mem _ c)) hr hb
theorem Links.behind {w : List Nat} {b : Int} {r : List Int} : ∀ {p : List Int} {h : Int},Links w h (p ++ b :: r) -> Links w (w.getD b.toNat 0 : Nat) r
 | [],h,e => e.2.2.2
 | c :: p,h,e => Links.behind (p := p) e.2.2.2
theorem xw9 {l : List Int} {i : Nat} (hi : i < l.length) : l = l.take i ++ l.getD i 0 :: l.drop (i + 1) := by
 have : l.getD i 0 = l[i] := by rw [List.getD_eq_getElem?_getD,List.getElem?_eq_getElem hi];rfl
 rw [this,List.getElem_cons_drop,List.take_append_drop]
theorem xXh {p q : List Int} {a : Int} (hp : a ∉ p) (hq : a ∉ q) : (p ++ a :: q).filter (fun x => x != a) = p ++ q := by
 rw [List.filter_append,List.filter_cons]
 have h1 : p.filter (fun x => x != a) = p := List.filter_eq_self.2 fun x hx => by simp;exact fun e => hp (e ▸ hx)
 have h2 : q.filter (fun x => x != a) = q := List.filter_eq_self.2 fun x hx => by simp;exact fun e => hq (e ▸ hx)
 rw [h1,h2]
 simp
theorem xJ0 (w : List Nat) (l : List Int) (i : Nat) : (kWords w l i).length = w.length := by
 unfold kWords
 split <;> simp
theorem ykd {w : List Nat} {h : Int} {l : List Int} {i : Nat} (k : Links w h l) (hd : l.Nodup) (hi : i < l.length) : Links (kWords w l i) (kHead w h l i) (l.filter (fun x => x != l.getD i 0)) := by
 obtain ⟨p,a,q,hl,hp,ha⟩ : ∃ p a q,l = p ++ a :: q /\ p.length = i /\ l.getD i 0 = a := ⟨_,_,_,xw9 hi,by rw [List.length_take];omega,rfl⟩
 have hnd := hl ▸ hd
 have hpa : a ∉ p := fun c => (List.nodup_append.1 hnd).2.2 a c a (List.mem_cons_self ..) rfl
 have hqa : a ∉ q := (List.nodup_cons.1 (List.nodup_append.1 hnd).2.1).1
 have ha0 := (k.mem a (by rw [hl];simp)).1
 have k1 : Links w h (p ++ a :: q) := hl ▸ k
 unfold kWords kHead
 rw [ha,show l.filter (fun x => x != a) = p ++ q by rw [hl];exact xXh hpa hqa]
 by_cases h0 : i = 0
 ·obtain rfl : p = [] := List.eq_nil_of_length_eq_zero (by omega)
  rw [if_pos h0,if_pos h0]
  exact Links.set_ ha0 hqa k1.behind
 ·rw [if_neg h0,if_neg h0]
  obtain ⟨p2,b,rfl⟩ : ∃ p2 b,p = p2 ++ [b] := by
   have hne : p ≠ [] := fun e => by rw [e] at hp;simp at hp;omega
   exact ⟨p.dropLast,p.getLast hne,(List.dropLast_concat_getLast hne).symm⟩
  have hb : l.getD (i - 1) 0 = b := by
   have : p2.length = i - 1 := by simp at hp;omega
   rw [hl,List.getD_eq_getElem?_getD,List.append_assoc,List.getElem?_append_right (by omega),this]
   simp
  rw [hb]
  have e1 : p2 ++ [b] ++ a :: q = p2 ++ b :: (a :: q) := by simp
  rw [e1] at k1 hnd
  have hbp : b ∉ p2 := fun c => (List.nodup_append.1 hnd).2.2 b c b (List.mem_cons_self ..) rfl
  have hbq : b ∉ a :: q := (List.nodup_cons.1 (List.nodup_append.1 hnd).2.1).1
  have k2 := Links.relink k1 hbp (k1.behind.behind (p := []) (b := a)) (fun c => hbq (List.mem_cons_of_mem _ c))
  rw [show p2 ++ [b] ++ q = p2 ++ b :: q by simp]
  refine Links.set_ ha0 (fun c => ?_) k2
  rcases List.mem_append.1 c with c | c
  ·exact hpa (by simp [c])
  ·rcases List.mem_cons.1 c with c | c
   ·exact hbq (by rw [c];exact List.mem_cons_self ..)
   ·exact hqa c
theorem getD_ext {a b : List Nat} (hl : a.length = b.length) (h : ∀ i,a.getD i 0 = b.getD i 0) : a = b := by
 refine List.ext_getElem hl fun i h1 h2 => ?_
 have := h i
 rw [List.getD_eq_getElem?_getD,List.getD_eq_getElem?_getD,List.getElem?_eq_getElem h1,List.getElem?_eq_getElem h2] at this
 exact this
theorem cut_eq {w : List Nat} {h len : Int} {l : List Int} {i : Nat} (hc : cList w (h,len) = some l) (hi : i < l.length) : cWithout w l (l.getD i 0) = (kWords w l i,(kHead w h l i,len - 1)) := by
 obtain ⟨k,hd,hlen⟩ := xqh.1 hc
 have hm : l.getD i 0 ∈ l := by
  rw [List.getD_eq_getElem?_getD,List.getElem?_eq_getElem hi];exact List.getElem_mem hi
 obtain ⟨r1,r2,r3,r4⟩ := xvv hc hm
 obtain ⟨⟨W,H,L⟩,hW⟩ : ∃ x,cWithout w l (l.getD i 0) = x := ⟨_,rfl⟩
 rw [hW] at r1 r2 r3 r4 ⊢
 obtain ⟨q1,q2,q3⟩ := xqh.1 r1
 have k2 := ykd k hd hi
 obtain ⟨e1,e2⟩ := q1.same k2
 have ha0 := (k.mem _ hm).1
 have hlen2 : ((l.filter (fun x => x != l.getD i 0)).length : Int) = len - 1 := by
  obtain ⟨p,a,q,hl,hp,ha⟩ : ∃ p a q,l = p ++ a :: q /\ p.length = i /\ l.getD i 0 = a := ⟨_,_,_,xw9 hi,by rw [List.length_take];omega,rfl⟩
  have hnd := hl ▸ hd
  have hpa : a ∉ p := fun c => (List.nodup_append.1 hnd).2.2 a c a (List.mem_cons_self ..) rfl
  have hqa : a ∉ q := (List.nodup_cons.1 (List.nodup_append.1 hnd).2.1).1
  rw [ha,show l.filter (fun x => x != a) = p ++ q by rw [hl];exact xXh hpa hqa]
  rw [hl] at hlen
  simp only [List.length_append,List.length_cons] at hlen ⊢
  omega
 have eW : W = kWords w l i := by
  refine getD_ext (by rw [xJ0];exact r4) fun j => ?_
  by_cases ja : (j : Int) = l.getD i 0
  ·have hj : (l.getD i 0).toNat = j := by omega
   have hlt := (k.mem _ hm).2
   rw [hj] at r2
   rw [r2]
   unfold kWords
   rw [hj,xj1]
   split
   ·omega
   ·rw [List.length_set];omega
  ·by_cases jl : (j : Int) ∈ l
   ·have := e2 (j : Int) (List.mem_filter.2 ⟨jl,by simpa using ja⟩)
    simpa using this
   ·rw [r3 j jl]
    unfold kWords
    rw [xxl _ _ _ _ (by omega)]
    split
    ·rfl
    ·rename_i h0
     rw [xxl]
     intro e
     refine jl ?_
     have hi2 : i - 1 < l.length := by omega
     have hm2 : l.getD (i - 1) 0 ∈ l := by
      rw [List.getD_eq_getElem?_getD,List.getElem?_eq_getElem hi2];exact List.getElem_mem hi2
     have h3 := (k.mem _ hm2).1
     have h4 : (j : Int) = l.getD (i - 1) 0 := by omega
     rw [h4];exact hm2
 rw [eW,e1]
 congr 2
 rw [<- hlen2]
 exact q3.symm
end Go.Proofs.YtlcdgmjinhbncaaGreat
namespace Go.Proofs.YtlcdgmjinhbncaaGreat
open Go.RowKit Go.Maps
set_option linter.unusedVariables false
theorem xXi {w : World} {nb n : Nat} {D : DataW Unit} {J : List Int} (hown : w.ownsMap Tryz.prog 3 boolR nb n D) (hn : NIs D J) (hc : n <= 1000000) (i : Int) (hi : in64 i) :
  Calls Tryz.prog 202 #[.map (some nb),.int .i64 i] w fun e w' => e = .returned (.bool (J.contains i)) /\ (∃ D',w'.ownsMap Tryz.prog 3 boolR nb (n + 1) D' /\ NIs D' (J ++ [i])) /\ w.grownBy w' (some nb) := by
 have hrun := xZo hown hn i hi 271 Tryz.underlying271
 have HN := hidb (hn.put (xkr hown) hi)
 have HO := hidb hown
 have HI := hidb hi
 obtain ⟨b,hb⟩ : ∃ b,J.contains i = b := ⟨_,rfl⟩
 rw [hb] at hrun ⊢
 clear hown hn hb hi
 go_enter Tryz.func202,Tryz.ntmps202
 go_wp2_with (first
  | (at_mapUpdate;refine wpList_mapUpdate_own _ rfl _ _ _ 271 rfl 3 4 keyed Tryz.underlying271 boolR nb n D rfl HO.out (by unfold maxLen;omega) _ _ _ rfl rfl (xzp HI.out) _ [] (xkq true) ?_;intro w3 hm3 hg3)
  | go_in)
 go_ret
 exact ⟨rfl,⟨_,hm3,HN.out⟩,hg3⟩
structure FollowSt (w W : World) (len : Int) (N : Nat) (out : List Int) (j : Nat) (A : Option Addr) (c : Nat) (D : DataW Unit) : Prop where
 row : W.ownsRow (w.heap.size + 1 + 1) 3 1 (.slice A j c) j (out.map iv)
 nm : W.ownsMap Tryz.prog 3 boolR (w.heap.size + 1) j D
 ni : NIs D out
 b1 : W.cell? ⟨w.heap.size,1,none⟩ = some (.int .i64 len)
 bel : Below w.heap.size w W
 le : w.heap.size + 1 + 1 <= W.heap.size
 jl : out.length = j
 nd : out.Nodup
 rg : ∀ x ∈ out,0 <= x /\ x < (N : Int)
section
variable {w W w2 w3 w4 : World} {len : Int} {N : Nat} {out : List Int} {j c c' : Nat} {A A' : Option Addr} {D D' : DataW Unit} {a : Int}
theorem FollowSt.below (k : FollowSt w W len N out j A c D) (hb : Below W.heap.size W w2) : FollowSt w w2 len N out j A c D :=
 ⟨xqk k.row hb,xq2 k.nm (hb.block _ k.nm.lt),k.ni,(hb.cell (xq0 k.b1)).trans k.b1,k.bel.trans (hb.mono k.bel.size),Nat.le_trans k.le hb.size,k.jl,k.nd,k.rg⟩
theorem FollowSt.row3 (k : FollowSt w W len N out j A c D) (hg3 : W.grownBy w3 (some (w.heap.size + 1))) : w3.ownsRow (w.heap.size + 1 + 1) 3 1 (.slice A j c) j (out.map iv) :=
 xZp k.row (by omega) hg3
theorem FollowSt.push (k : FollowSt w W len N out j A c D) (hn : out.contains a = false) (ha : 0 <= a /\ a < (N : Int)) (hg3 : W.grownBy w3 (some (w.heap.size + 1)))
  (hm3 : w3.ownsMap Tryz.prog 3 boolR (w.heap.size + 1) (j + 1) D') (hn3 : NIs D' (out ++ [a])) (hr4 : w4.ownsRow (w.heap.size + 1 + 1) 3 1 (.slice A' (j + 1) c') (j + 1) (out.map iv ++ [iv a])) (hb4 : Below (w.heap.size + 1 + 1) w3 w4) : FollowSt w w4 len N (out ++ [a]) (j + 1) A' c' D' := by
 have hs := hg3.size
 have hl := k.le
 have h4 := hb4.size
 refine ⟨by rw [List.map_append];exact hr4,xq2 hm3 (hb4.block _ (by omega)),hn3,?_,?_,by omega,by rw [List.length_append,k.jl];rfl,?_,?_⟩
 ·have h1 : w3.heap[w.heap.size]? = W.heap[w.heap.size]? := hg3.block _ (by omega) (fun e => by injection e with e;omega)
  exact (World.cell?_of_block (w := w3) (a := ⟨w.heap.size,1,none⟩) (hb4.block w.heap.size (by omega))).trans ((World.cell?_of_block (w := W) (a := ⟨w.heap.size,1,none⟩) h1).trans k.b1)
 ·have h1 : Below w.heap.size w w3 := k.bel.grown hg3 k.bel.size (fun b e => by injection e with e;omega)
  exact h1.trans (hb4.mono (by omega))
 ·refine List.nodup_append.2 ⟨k.nd,by simp,fun x hx y hy e => ?_⟩
  obtain rfl := List.mem_singleton.1 hy
  subst e
  have : out.contains x = true := by simpa using hx
  rw [hn] at this;cases this
 ·intro x hx
  rcases List.mem_append.1 hx with hx | hx
  ·exact k.rg x hx
  ·obtain rfl := List.mem_singleton.1 hx;exact ha
end
def ResFollow (w : World) (r : Option (List Int)) (e : Ending) (w' : World) : Prop :=
 ∃ A n c out,e = .returned (.tuple #[.slice A n c,.bool r.isSome]) /\ (∀ l,r = some l -> out = l) /\ Sl w' w'.heap.size A n (out.map iv) /\ (A = none -> n = 0) /\ Below w.heap.size w w' /\ ∀ a,A = some a -> w.heap.size <= a.block
theorem yz5 (x : Nat) (hx : x < 18446744073709551616) : IntKind.i64.wrap (x : Int) = asInt x := by
 unfold asInt
 split
 ·exact IntWalk.i64_in _ (by omega)
 ·rw [IntKind.wrap_i64];omega
set_option maxRecDepth 100000 in
theorem xKm {p g n : Nat} {ws : List Nat} {w : World} {B : Nat} (ha : Ar w B p g n ws) (h0 len : Int) (hh : in64 h0) (hl : in64 len) (hw : Wide ws) :
  Calls Tryz.prog 165 #[.pointer (some ⟨p,0,none⟩),.agg #[.int .i64 h0,.int .i64 len]] w (ResFollow w (cList ws (h0,len))) := by
 obtain ⟨i0,hi,hz0,hz1,hz2⟩ := info_parts xqw
 have l1 : ws.length = n := ha.hlen
 have hn := ha.small
 rw [cList_of hw (by omega)]
 obtain ⟨R,hR⟩ : ∃ R,cfList ws h0 = R := ⟨_,rfl⟩
 rw [hR]
 have HR : Hid (fGo ws (n + 1) h0 [] = R) := hidb (by rw [<- hR,<- l1];rfl)
 have HA : Hid (∀ W,Below w.heap.size w W -> Ar W B p g n ws) := hidb (fun W hb => ha.below hb (Nat.le_refl _))
 have HW := hidb hw
 have L1 := hidb l1
 have hmk := @run_makeMap Tryz.prog
 have hl0 := hl.1
 have hl1 := hl.2
 have HNO : Hid (R = none -> ∀ W,Below w.heap.size w W -> ResFollow w (R.filter (fun l => decide ((l.length : Int) = len))) (.returned (.tuple #[.slice none 0 0,.bool false])) W) := hidb (fun e W hW => by
  subst e
  exact ⟨none,0,0,[],rfl,(fun l h => by cases h),Sl.nil_,fun _ => rfl,hW,fun a e => by cases e⟩)
 clear ha hR hw l1 hl
 go_enter Tryz.func165,Tryz.ntmps165
 go_wp2
 go_loopw [6,8] (fun ov hv wr => ∃ (h : Int) (out : List Int) (A2 : Option Addr) (m c2 : Nat) (D : DataW Unit),hv = .int .i64 h /\ ov = .slice A2 m c2 /\ -9223372036854775808 <= h /\ h <= 9223372036854775807 /\ m <= n /\ Hid (FollowSt w wr len ws.length out m A2 c2 D) /\ Hid (fGo ws (n + 1 - m) h out = R)) (fun ov _ _ => n - lenOf ov)
 case atStart =>
  refine ⟨h0,[],none,0,0,.map [],rfl,rfl,hh.1,hh.2,Nat.zero_le _,hidb ⟨World.ownsRow_nil _ _ _ _,?_,xZn,?_,((Below.refl _ _).alloc (Nat.le_refl _) _).alloc (by simp) _,by simp,rfl,List.nodup_nil,fun x hx => by cases hx⟩,hidb HR.out⟩
  ·have := World.ownsMap_made (w.alloc (.cells #[.int .i64 h0,.int .i64 len] 137)) Tryz.prog 3 boolR
   simpa using this
  ·rw [World.cell?_alloc_past _ _ _ (by simp),World.cell?_alloc_at _ _ _ _ rfl];rfl
 case round =>
  obtain ⟨h,out,A2,m,c2,D,rfl,rfl,hh0,hh1,hm,HS,HG⟩ := hrel
  by_cases g0 : h = 0
  ·subst g0
   have q1 := HS.out.b1
   obtain ⟨b,hb⟩ : ∃ b,((m : Int) == len) = b := ⟨_,rfl⟩
   have P : Hid (∀ W,Below wr.heap.size wr W -> ResFollow w (R.filter (fun l => decide ((l.length : Int) = len))) (.returned (.tuple #[.slice A2 m c2,.bool b])) W) := hidb (fun W hW => by
    have h1 := HG.out
    rw [show n + 1 - m = (n - m) + 1 by omega,xZy] at h1
    have hs := HS.out.below hW
    rw [<- h1]
    refine ⟨A2,m,c2,out,?_,fun l e => ?_,Sl.of_own hs.row,fun e => ?_,hs.bel,fun a e => by
     subst e
     have := (hs.row.lt a.block rfl).1
     omega⟩
    ·rw [<- hb,<- hs.jl]
     by_cases e : (out.length : Int) = len
     ·simp [Option.filter,e]
     ·simp [Option.filter,e]
    ·by_cases e2 : (out.length : Int) = len
     ·simp [Option.filter,e2] at e;exact e
     ·simp [Option.filter,e2] at e
    ·subst e
     rcases hs.row.2 with ⟨h1,h2⟩ | ⟨g1,cap,cur,h1,_⟩
     ·exact h2
     ·cases h1)
   go_wp2
   go_quiet (fail)
   go_wp2
   go_ret2
   first | exact P.out _ (Below.refl _ _).drew | exact P.out _ (belowN (Below.refl _ _) _)
  ·have hg : decide (h ≠ 0) = true := decide_eq_true g0
   have hnz : (h == 0) = false := by simpa using g0
   have BAD : Hid (h < 0 \/ (ws.length : Int) < h \/ (h - 1) ∈ out -> R = none) := hidb (fun hb => by
    rw [<- HG.out,show n + 1 - m = (n - m) + 1 by omega,ykc _ _ _ _ g0 hb])
   have har := HA.out _ HS.out.bel
   by_cases g1 : h < 0 \/ (n : Int) < h
   ·have HE : Hid (R = none) := hidb (BAD.out (by rw [L1.out];rcases g1 with g | g;exact Or.inl g;exact Or.inr (Or.inl g)))
    obtain ⟨a,ha⟩ : ∃ a,IntKind.i64.wrap (h - 1) = a := ⟨_,rfl⟩
    have ha64 : in64 a /\ aIn n a 1 = false := by
     rw [IntKind.wrap_i64] at ha
     unfold in64 aIn
     refine ⟨by omega,decide_eq_false ?_⟩
     omega
    have cl := xZl (.pointer (some ⟨p,0,none⟩)) n a wr hn (xxi p _ _ _ _ (har.alloc _).cell) ha64.1 ha64.2
    clear har ha64 g1
    go_wp2_with (first | (go_at_call 219;(with_reducible refine cl.mono ?_);rintro e w2 ⟨rfl,hb2⟩))
    go_ret2
    exact HNO.out HE.out _ (HS.out.bel.trans (hb2.mono HS.out.bel.size))
   ·obtain ⟨a,hha⟩ : ∃ a : Nat,h - 1 = (a : Int) := ⟨(h - 1).toNat,by omega⟩
    have hw1 : IntKind.i64.wrap (h - 1) = (a : Int) := by rw [hha];exact IntWalk.i64_in _ (by omega)
    have han : a < n := by omega
    obtain ⟨x,hx⟩ : ∃ x,ws[a]? = some x := ⟨_,List.getElem?_eq_getElem (by have := L1.out;omega)⟩
    have hx64 := HW.out x (List.mem_of_getElem? hx)
    have hwx := yz5 x hx64
    have hxr : -9223372036854775808 <= asInt x /\ asInt x <= 9223372036854775807 := by unfold asInt;split <;> omega
    have cl := xX7 a x har hx
    have hmn : out.length <= n := by
     have := xzb ws.length out HS.out.nd HS.out.rg
     have := L1.out
     omega
    have hjl := HS.out.jl
    have HAG : Hid (∀ w2,Below wr.heap.size wr w2 -> Calls Tryz.prog 202 #[.map (some (w.heap.size + 1)),.int .i64 (a : Int)] w2 fun e w' => e = .returned (.bool (out.contains (a : Int))) /\ (∃ D',w'.ownsMap Tryz.prog 3 boolR (w.heap.size + 1) (m + 1) D' /\ NIs D' (out ++ [(a : Int)])) /\ w2.grownBy w' (some (w.heap.size + 1))) := hidb (fun w2 hb2 => xXi (HS.out.below hb2).nm HS.out.ni (by omega) (a : Int) (by unfold in64;omega))
    obtain ⟨b,hb⟩ : ∃ b,out.contains (a : Int) = b := ⟨_,rfl⟩
    rw [hb] at HAG
    have HX := hidb hx
    have HXR := hidb hxr
    have HB := hidb hb
    have HAN := hidb han
    have HHA := hidb hha
    clear hb hx hx64 hxr hmn hjl har g1 hha
    cases b with
    | true =>
     have HE : Hid (R = none) := hidb (BAD.out (Or.inr (Or.inr (by rw [HHA.out];simpa using HB.out))))
     go_wp2_with (first
      | (go_at_call 219;(with_reducible refine cl.mono ?_);rintro e w2 ⟨rfl,hb2⟩)
      | (go_at_call 202;(with_reducible refine (HAG.out _ hb2).mono ?_);rintro e w3 ⟨rfl,_,hg3⟩))
     go_ret2
     refine HNO.out HE.out _ ?_
     have hs := (HS.out.below hb2).bel
     exact hs.grown hg3 hs.size (fun b e => by injection e with e;omega)
    | false =>
     have HG2 : Hid (fGo ws (n + 1 - (m + 1)) (asInt x) (out ++ [(a : Int)]) = R) := hidb (by
      rw [<- HG.out,show n + 1 - m = (n - m) + 1 by omega,xZz _ _ _ _ x g0 (by
       have hha := HHA.out
       rw [L1.out,hha]
       have := HAN.out
       have hnb : ¬ (a : Int) ∈ out := by simpa using HB.out
       simp only [not_or]
       exact ⟨by omega,by omega,hnb⟩) (by rw [HHA.out];exact HX.out),HHA.out]
      congr 1;omega)
     go_wp2_with (first
      | (go_at_call 219;(with_reducible refine cl.mono ?_);rintro e w2 ⟨rfl,hb2⟩)
      | (go_at_call 202;(with_reducible refine (HAG.out _ hb2).mono ?_);rintro e w3 ⟨rfl,⟨D3,hm3,hn3⟩,hg3⟩;have HB2 := hidb hb2;have HR3 := hidb ((HS.out.below hb2).row3 hg3);have HZ3 : Hid (w.heap.size + 1 + 1 <= w3.heap.size) := hidb (by have := (HS.out.below hb2).le;have := hg3.size;omega);have HM3 := hidb hm3;have HN3 := hidb hn3;have HG3 := hidb hg3;clear hm3 hn3 hg3 hb2)
      | (at_builtin;refine xqo w3 rfl _ _ 38 rfl (w.heap.size + 1 + 1) 3 i0 (.int .i64 0) 8 Tryz.underlying38 hi hz0 hz1 hz2 rfl (.slice A2 m c2) m (out.map iv) rfl HR3.out HZ3.out (.int .i64 (a : Int)) rfl _ rfl (by unfold maxLen;omega) (by omega) ?_;intro v1 w4 hown4 hb4;obtain ⟨A4,c4,rfl⟩ := xzr hown4;have HO4 := hidb hown4;have HB4 := hidb hb4;clear hown4 hb4))
     have HE := hidb ((HS.out.below HB2.out).push HB.out (by have := HAN.out;have := L1.out;omega) HG3.out HM3.out HN3.out HO4.out HB4.out)
     have hm1 : m + 1 <= n := by
      have h1 := xzb ws.length _ HE.out.nd HE.out.rg
      have h2 := HE.out.jl
      have h3 := L1.out
      omega
     go_roundw
     case rel => exact ⟨asInt x,out ++ [(a : Int)],_,m + 1,_,_,by go_num,rfl,HXR.out.1,HXR.out.2,hm1,HE,HG2⟩
     case measure => simp [lenOf];omega
def ResList (w : World) (r : Option (List Int)) (e : Ending) (w' : World) : Prop :=
 ∃ A n c out,e = .returned (.tuple #[.slice A n c,.int .i64 (if r.isSome then 0 else 9)]) /\ (∀ l,r = some l -> out = l) /\ (r = none -> n = 0) /\ Sl w' w'.heap.size A n (out.map iv) /\ (A = none -> n = 0) /\ Below w.heap.size w w' /\ ∀ a,A = some a -> w.heap.size <= a.block
theorem xvg {p g n : Nat} {ws : List Nat} {w : World} {B : Nat} (ha : Ar w B p g n ws) (h0 len : Int) (hh : in64 h0) (hl : in64 len) (hw : Wide ws) :
  Calls Tryz.prog 97 #[.pointer (some ⟨p,0,none⟩),.agg #[.int .i64 h0,.int .i64 len]] w (ResList w (cList ws (h0,len))) := by
 have hb0 : Below w.heap.size w (w.alloc (.cells #[.int .i64 h0,.int .i64 len] 137)) := (Below.refl _ _).alloc (Nat.le_refl _) _
 have cf := xKm (ha.alloc (.cells #[.int .i64 h0,.int .i64 len] 137)) h0 len hh hl hw
 obtain ⟨R,hR⟩ : ∃ R,cList ws (h0,len) = R := ⟨_,rfl⟩
 rw [hR] at cf ⊢
 unfold ResFollow at cf
 have HB0 := hidb hb0
 clear ha hR hh hl hw hb0
 cases R with
 | none =>
  go_enter Tryz.func97,Tryz.ntmps97
  go_wp2_with (first | (go_at_call 165;(with_reducible refine cf.mono ?_);rintro e w2 ⟨A,m,c,out,rfl,h1,h2,h3,hb2,h4⟩))
  go_ret2
  exact ⟨none,0,0,[],rfl,(fun l h => by cases h),(fun _ => rfl),Sl.nil_,fun _ => rfl,HB0.out.trans (hb2.mono HB0.out.size),fun a e => by cases e⟩
 | some l =>
  go_enter Tryz.func97,Tryz.ntmps97
  go_wp2_with (first | (go_at_call 165;(with_reducible refine cf.mono ?_);rintro e w2 ⟨A,m,c,out,rfl,h1,h2,h3,hb2,h4⟩))
  go_ret2
  exact ⟨A,m,c,out,rfl,h1,(fun h => by cases h),h2,h3,HB0.out.trans (hb2.mono HB0.out.size),fun a e => Nat.le_trans HB0.out.size (h4 a e)⟩
theorem xKn {t : Nat} (p : Nat -> Bool) (I : Nat -> World -> Prop) (A : Option Addr) (n c : Nat) (zs : List Int) (w : World) (hI : I 0 w) (hs : ∀ j W,I j W -> Sl W W.heap.size A n (zs.map iv))
  (hq : ∀ j z W,zs[j]? = some z -> I j W -> Calls Tryz.prog 199 #[.int .i64 z,.pointer (some ⟨t,0,none⟩)] W fun e w' => e = .returned (.bool (p j)) /\ I (j + 1) w') (hn : n <= 131072) :
  Calls Tryz.prog 155 #[.slice A n c,.func (.func 199) #[] #[.pointer (some ⟨t,0,none⟩)]] w fun e w' => (∃ r : Int,e = .returned (.int .i64 r) /\ -1 <= r /\ r <= 9223372036854775807 /\ decide (0 <= r) = (List.range n).any p) /\ ∃ j,j <= n /\ I j w' := by
 have HL : Hid (zs.length = n) := hidb (by have := (hs 0 w hI).1;simpa using this)
 have HI := hidb hI
 have HS := hidb hs
 have HQ := hidb hq
 clear hI hs hq
 go_enter Tryz.func155,Tryz.ntmps155
 go_wp2
 go_loopw [8] (fun k wr => ∃ j : Nat,j <= n /\ Hid (∀ i,i < j -> p i = false) /\ k = .int .i64 j /\ Hid (I j wr)) (fun k _ => (n - intOf k).toNat)
 case atStart => exact ⟨0,by omega,hidb (fun i h => absurd h (Nat.not_lt_zero _)),rfl,HI⟩
 case round =>
  obtain ⟨j,hj,HA,rfl,HJ⟩ := hrel
  by_cases hlt : j < n
  ·obtain ⟨b,off,z,rfl,hx,hc⟩ := (HS.out j wr HJ.out).int_ hlt
   have c1 := HQ.out j z wr hx HJ.out
   have hj0 : (0 : Int) <= (j : Int) := by omega
   have hj1 : (j : Int) < (n : Int) := by omega
   clear hx
   cases hT : p j with
   | false =>
    rw [hT] at c1
    have HA2 : Hid (∀ i,i < j + 1 -> p i = false) := hidb (fun i hi => by
     by_cases h : i = j
     ·subst h;exact hT
     ·exact HA.out i (by omega))
    clear hT
    go_wp2_with (first | (go_at_call 199;(with_reducible refine c1.mono ?_);rintro e w1 ⟨rfl,hi1⟩))
    go_roundw
    case rel => exact ⟨j + 1,by omega,HA2,by go_num,hidb hi1⟩
    case measure => simp [intOf];omega
   | true =>
    rw [hT] at c1
    have HF : Hid ((List.range n).any p = true) := hidb (by
     rw [List.any_eq_true]
     exact ⟨j,List.mem_range.2 hlt,hT⟩)
    clear hT
    go_wp2_with (first | (go_at_call 199;(with_reducible refine c1.mono ?_);rintro e w1 ⟨rfl,hi1⟩))
    go_ret
    exact ⟨⟨j,rfl,by omega,by omega,by rw [HF.out];exact decide_eq_true (by omega)⟩,j + 1,by omega,hi1⟩
  ·have HF : Hid ((List.range n).any p = false) := hidb (by
    rw [List.any_eq_false]
    intro i hi
    have := HA.out i (by have := List.mem_range.1 hi;omega)
    simp [this])
   go_wp2
   go_ret
   exact ⟨⟨-1,rfl,by omega,by omega,by rw [HF.out];rfl⟩,j,hj,HJ.out⟩
theorem xKo {t : Nat} (p : Nat -> Bool) (I : Nat -> World -> Prop) (A : Option Addr) (n c : Nat) (zs : List Int) (w : World) (hI : I 0 w) (hs : ∀ j W,I j W -> Sl W W.heap.size A n (zs.map iv))
  (hq : ∀ j z W,zs[j]? = some z -> I j W -> Calls Tryz.prog 199 #[.int .i64 z,.pointer (some ⟨t,0,none⟩)] W fun e w' => e = .returned (.bool (p j)) /\ I (j + 1) w') (hn : n <= 131072) :
  Calls Tryz.prog 103 #[.slice A n c,.func (.func 199) #[] #[.pointer (some ⟨t,0,none⟩)]] w fun e w' => e = .returned (.bool ((List.range n).any p)) /\ ∃ j,j <= n /\ I j w' := by
 have c1 := xKn p I A n c zs w hI hs hq hn
 clear hI hs hq
 go_enter Tryz.func103,Tryz.ntmps103
 go_wp2_with (go_at_call 155;(with_reducible refine c1.mono ?_);rintro e w1 ⟨⟨r,rfl,h1,h2,h3⟩,hj1⟩)
 go_ret
 exact ⟨rfl,hj1⟩
theorem xJ1 {t : Nat} (p : Nat -> Bool) (I : Nat -> World -> Prop) (A : Option Addr) (n c : Nat) (zs : List Int) (w : World) (hI : I 0 w) (hs : ∀ j W,I j W -> Sl W W.heap.size A n (zs.map iv))
  (hq : ∀ j z W,zs[j]? = some z -> I j W -> Calls Tryz.prog 202 #[.map (some t),.int .i64 z] W fun e w' => e = .returned (.bool (p j)) /\ I (j + 1) w') (hn : n <= 131072) :
  Calls Tryz.prog 155 #[.slice A n c,.func (.func 202) #[.map (some t)] #[]] w fun e w' => (∃ r : Int,e = .returned (.int .i64 r) /\ -1 <= r /\ r <= 9223372036854775807 /\ decide (0 <= r) = (List.range n).any p) /\ ∃ j,j <= n /\ I j w' := by
 have HL : Hid (zs.length = n) := hidb (by have := (hs 0 w hI).1;simpa using this)
 have HI := hidb hI
 have HS := hidb hs
 have HQ := hidb hq
 clear hI hs hq
 go_enter Tryz.func155,Tryz.ntmps155
 go_wp2
 go_loopw [8] (fun k wr => ∃ j : Nat,j <= n /\ Hid (∀ i,i < j -> p i = false) /\ k = .int .i64 j /\ Hid (I j wr)) (fun k _ => (n - intOf k).toNat)
 case atStart => exact ⟨0,by omega,hidb (fun i h => absurd h (Nat.not_lt_zero _)),rfl,HI⟩
 case round =>
  obtain ⟨j,hj,HA,rfl,HJ⟩ := hrel
  by_cases hlt : j < n
  ·obtain ⟨b,off,z,rfl,hx,hc⟩ := (HS.out j wr HJ.out).int_ hlt
   have c1 := HQ.out j z wr hx HJ.out
   have hj0 : (0 : Int) <= (j : Int) := by omega
   have hj1 : (j : Int) < (n : Int) := by omega
   clear hx
   cases hT : p j with
   | false =>
    rw [hT] at c1
    have HA2 : Hid (∀ i,i < j + 1 -> p i = false) := hidb (fun i hi => by
     by_cases h : i = j
     ·subst h;exact hT
     ·exact HA.out i (by omega))
    clear hT
    go_wp2_with (first | (go_at_call 202;(with_reducible refine c1.mono ?_);rintro e w1 ⟨rfl,hi1⟩))
    go_roundw
    case rel => exact ⟨j + 1,by omega,HA2,by go_num,hidb hi1⟩
    case measure => simp [intOf];omega
   | true =>
    rw [hT] at c1
    have HF : Hid ((List.range n).any p = true) := hidb (by
     rw [List.any_eq_true]
     exact ⟨j,List.mem_range.2 hlt,hT⟩)
    clear hT
    go_wp2_with (first | (go_at_call 202;(with_reducible refine c1.mono ?_);rintro e w1 ⟨rfl,hi1⟩))
    go_ret
    exact ⟨⟨j,rfl,by omega,by omega,by rw [HF.out];exact decide_eq_true (by omega)⟩,j + 1,by omega,hi1⟩
  ·have HF : Hid ((List.range n).any p = false) := hidb (by
    rw [List.any_eq_false]
    intro i hi
    have := HA.out i (by have := List.mem_range.1 hi;omega)
    simp [this])
   go_wp2
   go_ret
   exact ⟨⟨-1,rfl,by omega,by omega,by rw [HF.out];rfl⟩,j,hj,HJ.out⟩
theorem xJ2 {t : Nat} (p : Nat -> Bool) (I : Nat -> World -> Prop) (A : Option Addr) (n c : Nat) (zs : List Int) (w : World) (hI : I 0 w) (hs : ∀ j W,I j W -> Sl W W.heap.size A n (zs.map iv))
  (hq : ∀ j z W,zs[j]? = some z -> I j W -> Calls Tryz.prog 202 #[.map (some t),.int .i64 z] W fun e w' => e = .returned (.bool (p j)) /\ I (j + 1) w') (hn : n <= 131072) :
  Calls Tryz.prog 103 #[.slice A n c,.func (.func 202) #[.map (some t)] #[]] w fun e w' => e = .returned (.bool ((List.range n).any p)) /\ ∃ j,j <= n /\ I j w' := by
 have c1 := xJ1 p I A n c zs w hI hs hq hn
 clear hI hs hq
 go_enter Tryz.func103,Tryz.ntmps103
 go_wp2_with (go_at_call 155;(with_reducible refine c1.mono ?_);rintro e w1 ⟨⟨r,rfl,h1,h2,h3⟩,hj1⟩)
 go_ret
 exact ⟨rfl,hj1⟩
theorem yz6 (A : Option Addr) (n c : Nat) (zs : List Int) (v : Int) (w : World) (hs : Sl w w.heap.size A n (zs.map iv)) (hn : n <= 131072) :
  Calls Tryz.prog 154 #[.slice A n c,.int .i64 v] w fun e w' => (∃ r : Int,e = .returned (.int .i64 r) /\ ((v ∉ zs /\ r = -1) \/ ∃ i : Nat,i < n /\ r = i /\ zs[i]? = some v)) /\ w = w' := by
 have HL : Hid (zs.length = n) := hidb (by have := hs.1;simpa using this)
 have HS := hidb hs
 clear hs
 go_enter Tryz.func154,Tryz.ntmps154
 go_wp2
 go_loop [8] (fun k => ∃ j : Nat,j <= n /\ Hid (∀ i,i < j -> zs[i]? ≠ some v) /\ k = .int .i64 j) (fun k => (n - intOf k).toNat)
 case atStart => exact ⟨0,by omega,hidb (fun i h => absurd h (Nat.not_lt_zero _)),rfl⟩
 case round =>
  obtain ⟨j,hj,HA,rfl⟩ := hrel
  by_cases hlt : j < n
  ·obtain ⟨b,off,x,rfl,hx,hc⟩ := HS.out.int_ hlt
   have HX := hidb hx
   have hj0 : (0 : Int) <= (j : Int) := by omega
   have hj1 : (j : Int) < (n : Int) := by omega
   clear hx
   by_cases hv : v = x
   ·have HV := hidb hv
    have hb : (v == x) = true := by simpa using hv
    clear hv
    go_wp2
    go_ret
    exact ⟨⟨j,rfl,Or.inr ⟨j,hlt,rfl,by rw [HX.out,HV.out]⟩⟩,rfl⟩
   ·have HA2 : Hid (∀ i,i < j + 1 -> zs[i]? ≠ some v) := hidb (fun i hi => by
     by_cases h : i = j
     ·subst h;rw [HX.out];exact fun e => hv (Option.some.inj e).symm
     ·exact HA.out i (by omega))
    have hb : (v == x) = false := by simpa using hv
    clear hv
    go_wp2
    go_round
    case rel => exact ⟨j + 1,by omega,HA2,by go_num⟩
    case measure => simp [intOf];omega
  ·have HF : Hid (v ∉ zs) := hidb (fun hm => by
    obtain ⟨i,hi,e⟩ := List.getElem_of_mem hm
    exact HA.out i (by have := HL.out;omega) (by rw [List.getElem?_eq_getElem hi,e]))
   go_wp2
   go_ret
   exact ⟨⟨-1,rfl,Or.inl ⟨HF.out,rfl⟩⟩,rfl⟩
end Go.Proofs.YtlcdgmjinhbncaaGreat
namespace Go.Proofs.YtlcdgmjinhbncaaGreat
open Go.RowKit
set_option linter.unusedVariables false
def OwnZs (w : World) (zs : List Int) (e : Ending) (w' : World) : Prop := ∃ A c,e = .returned (.slice A zs.length c) /\ w'.ownsRow w.heap.size 3 1 (.slice A zs.length c) zs.length (zs.map iv) /\ Below w.heap.size w w'
theorem xJ3 (zs : List Int) : ∀ u ∈ zs.map iv,u.oneCell' = true := fun u hu => by
 obtain ⟨z,_,rfl⟩ := List.mem_map.1 hu;rfl
theorem xwa {w : World} {B n : Nat} {A : Option Addr} {l : List Value} (h : Sl w B A n l) : CellsAt w A l := fun ad e j u hj => by
 have hlt : j < l.length := (List.getElem?_eq_some_iff.1 hj).1
 obtain ⟨b,off,e2,_,hc⟩ := h.2 (by have := h.1;omega)
 rw [e] at e2
 obtain rfl := Option.some.inj e2
 rw [Go.WideShapes.add_plain,hc j (by have := h.1;omega)]
 exact hj
def OwnRoomI (w : World) (e : Ending) (w' : World) : Prop := ∃ A c,e = .returned (.slice A 0 c) /\ w'.ownsRow w.heap.size 3 1 (.slice A 0 c) 0 [] /\ Below w.heap.size w w'
set_option maxRecDepth 100000 in
theorem yz7 (k : Nat) (w : World) (hk : k <= 131072) :
  Calls Tryz.prog 249 #[.slice none 0 0,.int .i64 (k : Int)] w (OwnRoomI w) := by
 obtain ⟨i0,hi,hz0,hz1,hz2⟩ := info_parts xqw
 by_cases h0 : k = 0
 ·subst h0
  go_enter Tryz.func249,Tryz.ntmps249
  go_wp2
  go_ret
  exact ⟨none,0,rfl,World.ownsRow_nil _ _ _ _,Below.refl _ _⟩
 ·have hr := fun ty => Lib.run_append_nil_zeros (P := Tryz.prog) w 38 3 ty 3 i0 _ .i64 .i64 Tryz.underlying38 Tryz.underlying3 hi hz0 k (by omega) (by rw [hz1];decide) (by omega) (by rw [hz2];omega)
  have hge := grownCap_ge w k 0 3
  have hcm := grownCap_le_maxLen w k 0 3 (by unfold maxLen;omega)
  obtain ⟨G,hG⟩ : ∃ G,grownCap w k 0 3 = G := ⟨_,rfl⟩
  rw [hG] at hge hcm
  have hr2 : ∀ ty,∃ W,(Builtin.append_ #[38,3] ty #[.slice none 0 0,.int .i64 (k : Int)]).run Tryz.prog w = .ok (.slice (some ⟨w.heap.size,0,none⟩) k G) W /\ W.ownsRow w.heap.size 3 1 (.slice (some ⟨w.heap.size,0,none⟩) 0 G) 0 [] /\ Below w.heap.size w W := fun ty => by
   have h := hr ty
   rw [hG] at h
   refine ⟨_,h,?_,(Below.refl _ _).drew.alloc (Nat.le_refl _) _⟩
   refine ⟨rfl,.inr ⟨w.heap.size,G,_,rfl,Nat.le_refl _,heap_alloc_new w.drew _,by omega,hcm,?_,rfl⟩⟩
   simp only [Array.size_append,size_zeroCells]
   rw [<- Nat.add_mul]
   show (k + (G - k)) * 1 = G * 1
   omega
  obtain ⟨W,hrun,hown,hbel⟩ := hr2 38
  have HO := hidb hown
  have HB := hidb hbel
  have hk1 : (0 : Int) < (k : Int) := by omega
  clear hr hr2 hG hown hbel
  go_enter Tryz.func249,Tryz.ntmps249
  go_wp2_with (first | (at_builtin;refine Lib.wpList_append_run _ rfl _ _ _ _ rfl _ _ rfl rfl _ _ hrun ?_))
  go_ret
  exact ⟨_,_,rfl,HO.out,HB.out⟩
set_option maxRecDepth 100000 in
set_option maxHeartbeats 2000000 in
theorem xKp (N : Nat) (A1 A2 : Option Addr) (n1 c1 n2 c2 : Nat) (rs1 rs2 : List Int) (w : World) (hN : N < w.heap.size) (h0 : w.cell? ⟨N,0,none⟩ = some (.slice A1 n1 c1)) (h1 : w.cell? ⟨N,1,none⟩ = some (.slice A2 n2 c2))
  (hs1 : Sl w w.heap.size A1 n1 (rs1.map iv)) (hs2 : Sl w w.heap.size A2 n2 (rs2.map iv)) (hn1 : n1 <= 65536) (hn2 : n2 <= 65536) :
  Calls Tryz.prog 201 #[.slice (some ⟨N,0,none⟩) 2 2] w (OwnZs w (rs1 ++ rs2)) := by
 obtain ⟨i0,hi,hz0,hz1,hz2⟩ := info_parts xqw
 have l1 : rs1.length = n1 := by have := hs1.1;simpa using this
 have l2 : rs2.length = n2 := by have := hs2.1;simpa using this
 have cg := yz7 (n1 + n2) w (by omega)
 rw [Int.natCast_add] at cg
 have nil0 : ∀ (A : Option Addr) (n : Nat) (rs : List Int),Sl w w.heap.size A n (rs.map iv) -> A = none -> n = 0 := fun A n rs hs e => by
  refine Nat.eq_zero_of_not_pos fun h => ?_
  obtain ⟨b,off,e2,_⟩ := hs.2 h
  rw [e] at e2;cases e2
 have HA1 : Hid (A1 = none -> n1 = 0) := hidb (fun e => nil0 A1 n1 rs1 hs1 e)
 have HA2 : Hid (A2 = none -> n2 = 0) := hidb (fun e => nil0 A2 n2 rs2 hs2 e)
 have HC1 : Hid (∀ W,Below w.heap.size w W -> CellsAt W A1 (rs1.map iv)) := hidb (fun W hb => xwa (hs1.below hb))
 have HC2 : Hid (∀ W,Below w.heap.size w W -> CellsAt W A2 (rs2.map iv)) := hidb (fun W hb => xwa (hs2.below hb))
 have HQ : Hid (∀ W,Below w.heap.size w W -> W.cell? ⟨N,0,none⟩ = some (.slice A1 n1 c1) /\ W.cell? ⟨N,1,none⟩ = some (.slice A2 n2 c2)) := hidb (fun W hb => by
  rw [hb.cell (p := ⟨N,0,none⟩) hN,hb.cell (p := ⟨N,1,none⟩) hN];exact ⟨h0,h1⟩)
 have HL1 := hidb l1
 have HL2 := hidb l2
 have o1 := hidb (xJ3 rs1)
 have o2 := hidb (xJ3 rs2)
 clear hs1 hs2 l1 l2 nil0
 go_enter Tryz.func201,Tryz.ntmps201
 go_wp2
 refine wp_loop_rounds 3 ?_
 rw [rounds_succ]
 go_wp2
 rw [rounds_succ]
 go_wp2
 rw [rounds_succ]
 go_wp2_with (first | (go_at_call 249;(with_reducible refine cg.mono ?_);rintro e w1 ⟨A3,c3,rfl,hown3,hb3⟩;obtain ⟨q0,q1⟩ := HQ.out _ hb3))
 have HO3 := hidb hown3
 have HB3 := hidb hb3
 clear hown3 hb3
 refine wp_loop_rounds 3 ?_
 rw [rounds_succ]
 go_wp2_with (first | (at_builtin;refine xqf _ rfl (.tmp 31) (.tmp 32) 38 rfl w.heap.size 3 i0 (.int .i64 0) 1 8 Tryz.underlying38 hi hz0 hz1 hz2 rfl (by decide) _ 0 [] rfl HO3.out HB3.out.size A1 n1 c1 (rs1.map iv) rfl (by rw [List.length_map,HL1.out,Nat.mul_one]) HA1.out (HC1.out _ HB3.out) o1.out (by unfold maxLen;omega) (by omega) ?_;intro A4 c4 w4 hown4 hg4))
 rw [Nat.zero_add,List.nil_append] at hown4
 have HO4 := hidb hown4
 have HB4 : Hid (Below w.heap.size w w4) := hidb (HB3.out.grown hg4 HB3.out.size (fun k hk => (HO3.out.lt k hk).1))
 obtain ⟨r0,r1⟩ := HQ.out _ HB4.out
 clear hown4 hg4
 rw [rounds_succ]
 go_wp2_with (first | (at_builtin;refine xqf _ rfl (.tmp 31) (.tmp 32) 38 rfl w.heap.size 3 i0 (.int .i64 0) 1 8 Tryz.underlying38 hi hz0 hz1 hz2 rfl (by decide) _ n1 (rs1.map iv) rfl HO4.out HB4.out.size A2 n2 c2 (rs2.map iv) rfl (by rw [List.length_map,HL2.out,Nat.mul_one]) HA2.out (HC2.out _ HB4.out) o2.out (by unfold maxLen;omega) (by omega) ?_;intro A5 c5 w5 hown5 hg5))
 have HO5 := hidb hown5
 have HB5 : Hid (Below w.heap.size w w5) := hidb (HB4.out.grown hg5 HB4.out.size (fun k hk => (HO4.out.lt k hk).1))
 clear hown5 hg5
 rw [rounds_succ]
 go_wp2
 go_ret
 refine ⟨A5,c5,?_,?_,HB5.out⟩
 ·rw [List.length_append,HL1.out,HL2.out];rfl
 ·rw [List.length_append,HL1.out,HL2.out,List.map_append];exact HO5.out
structure ChSt (w W : World) (B p g n q r : Nat) (ws : List Nat) (h l : Int) : Prop where
 ar : Ar W B p g n ws
 q0 : W.cell? ⟨q,0,none⟩ = some (.int .i64 h)
 q1 : W.cell? ⟨q,1,none⟩ = some (.int .i64 l)
 qf : ∀ j,W.frozen? ⟨q,j,none⟩ = false
 r0 : W.cell? ⟨r,0,none⟩ = some (.int .i64 0)
 r1 : W.cell? ⟨r,1,none⟩ = some (.int .i64 0)
 rf : ∀ j,W.frozen? ⟨r,j,none⟩ = false
 gr : w.grownBy W (some g)
 lq : w.heap.size <= q
 lr : w.heap.size <= r
 ne : q ≠ r
 gw : g < w.heap.size
 pw : p < w.heap.size
theorem wv_set (xs : List Nat) (a x : Nat) : aStore xs a [x] = xs.set a x \/ xs.length <= a := by
 by_cases h : a < xs.length
 ·left
  have := xVt xs a [] x (by simpa using h)
  rw [xva] at this
  simpa using this
 ·right;omega
theorem xvh {xs : List Nat} {a : Nat} (h : a < xs.length) (x : Nat) : aStore xs a [x] = xs.set a x := by
 rcases wv_set xs a x with e | e
 ·exact e
 ·omega
section
variable {w W W' : World} {B p g n q r : Nat} {ws ws' : List Nat} {h l h' l' : Int}
theorem ChSt.qlt (k : ChSt w W B p g n q r ws h l) : q < W.heap.size := xq0 k.q0
theorem ChSt.rlt (k : ChSt w W B p g n q r ws h l) : r < W.heap.size := xq0 k.r0
theorem ChSt.facts (k : ChSt w W B p g n q r ws h l) : W.cell? ⟨q,0,none⟩ = some (.int .i64 h) /\ W.cell? ⟨q,1,none⟩ = some (.int .i64 l) /\ W.cell? ⟨r,0,none⟩ = some (.int .i64 0) /\ W.cell? ⟨r,1,none⟩ = some (.int .i64 0) /\ W.frozen? ⟨r,0,none⟩ = false /\ W.frozen? ⟨r,1,none⟩ = false /\ W.frozen? ⟨q,0,none⟩ = false /\ W.frozen? ⟨q,1,none⟩ = false :=
 ⟨k.q0,k.q1,k.r0,k.r1,k.rf 0,k.rf 1,k.qf 0,k.qf 1⟩
theorem ChSt.step (k : ChSt w W B p g n q r ws h l) (hg : W.grownBy W' (some g)) (ha : Ar W' B p g n ws') : ChSt w W' B p g n q r ws' h l := by
 have hq := hg.block q k.qlt (fun e => by injection e with e;have := k.lq;have := k.gw;omega)
 have hr := hg.block r k.rlt (fun e => by injection e with e;have := k.lr;have := k.gw;omega)
 exact ⟨ha,(World.cell?_of_block (w := W) (a := ⟨q,0,none⟩) hq).trans k.q0,(World.cell?_of_block (w := W) (a := ⟨q,1,none⟩) hq).trans k.q1,fun j => (World.frozen?_of_block (w := W) (a := ⟨q,j,none⟩) hq).trans (k.qf j),
  (World.cell?_of_block (w := W) (a := ⟨r,0,none⟩) hr).trans k.r0,(World.cell?_of_block (w := W) (a := ⟨r,1,none⟩) hr).trans k.r1,fun j => (World.frozen?_of_block (w := W) (a := ⟨r,j,none⟩) hr).trans (k.rf j),xq4 k.gr hg,k.lq,k.lr,k.ne,k.gw,k.pw⟩
theorem ChSt.below (k : ChSt w W B p g n q r ws h l) (hb : Below W.heap.size W W') : ChSt w W' B p g n q r ws h l := k.step (xq3 hb _) (k.ar.below hb (Nat.le_refl _))
theorem ChSt.set0 (k : ChSt w W B p g n q r ws h l) (h' : Int) : ChSt w (W.setCell ⟨q,0,none⟩ (.int .i64 h')) B p g n q r ws h' l := by
 have e1 := k.lq
 have e2 := k.gw
 have e3 := k.pw
 refine ⟨k.ar.setCell (by show q ≠ p;omega) (by show q ≠ g;omega) _,?_,?_,fun j => by rw [World.frozen?_setCell];exact k.qf j,?_,?_,fun j => by rw [World.frozen?_setCell];exact k.rf j,xqx k.gr (by exact k.lq) _,k.lq,k.lr,k.ne,k.gw,k.pw⟩
 ·rw [World.cell?_setCell_same _ _ _ (by rw [k.q0])]
 ·rw [World.cell?_setCell_other _ _ _ _ (by simp)];exact k.q1
 ·rw [World.cell?_setCell_other _ _ _ _ (by have := k.ne;simp;try omega)];exact k.r0
 ·rw [World.cell?_setCell_other _ _ _ _ (by have := k.ne;simp;try omega)];exact k.r1
theorem ChSt.set1 (k : ChSt w W B p g n q r ws h l) (l' : Int) : ChSt w (W.setCell ⟨q,1,none⟩ (.int .i64 l')) B p g n q r ws h l' := by
 have e1 := k.lq
 have e2 := k.gw
 have e3 := k.pw
 refine ⟨k.ar.setCell (by show q ≠ p;omega) (by show q ≠ g;omega) _,?_,?_,fun j => by rw [World.frozen?_setCell];exact k.qf j,?_,?_,fun j => by rw [World.frozen?_setCell];exact k.rf j,xqx k.gr (by exact k.lq) _,k.lq,k.lr,k.ne,k.gw,k.pw⟩
 ·rw [World.cell?_setCell_other _ _ _ _ (by simp)];exact k.q0
 ·rw [World.cell?_setCell_same _ _ _ (by rw [k.q1])]
 ·rw [World.cell?_setCell_other _ _ _ _ (by have := k.ne;simp;try omega)];exact k.r0
 ·rw [World.cell?_setCell_other _ _ _ _ (by have := k.ne;simp;try omega)];exact k.r1
theorem ChSt.fin (k : ChSt w W B p g n q r ws h l) (u v : Value) : Ar ((W.setCell ⟨r,0,none⟩ u).setCell ⟨r,1,none⟩ v) B p g n ws /\ w.grownBy ((W.setCell ⟨r,0,none⟩ u).setCell ⟨r,1,none⟩ v) (some g) := by
 have e1 := k.lr
 have e2 := k.gw
 have e3 := k.pw
 exact ⟨(k.ar.setCell (by show r ≠ p;omega) (by show r ≠ g;omega) _).setCell (by show r ≠ p;omega) (by show r ≠ g;omega) _,xqx (xqx k.gr (by exact k.lr) _) (by exact k.lr) _⟩
theorem ChSt.start (ha : Ar w B p g n ws) (h l : Int) (t t2 : TypeId) : ChSt w ((w.alloc (.cells #[.int .i64 h,.int .i64 l] t)).alloc (.cells #[.int .i64 0,.int .i64 0] t2)) B p g n w.heap.size (w.heap.size + 1) ws h l := by
 have hb : Below w.heap.size w ((w.alloc (.cells #[.int .i64 h,.int .i64 l] t)).alloc (.cells #[.int .i64 0,.int .i64 0] t2)) := ((Below.refl _ _).alloc (Nat.le_refl _) _).alloc (by simp) _
 refine ⟨ha.below hb (Nat.le_refl _),?_,?_,fun j => ?_,?_,?_,fun j => ?_,xq3 hb _,Nat.le_refl _,by omega,by omega,ha.lt,ha.ltp⟩
 ·rw [World.cell?_alloc_past _ _ _ (by simp),World.cell?_alloc_at _ _ _ _ rfl];rfl
 ·rw [World.cell?_alloc_past _ _ _ (by simp),World.cell?_alloc_at _ _ _ _ rfl];rfl
 ·rw [World.frozen?_alloc_past _ _ _ (by simp),World.frozen?_alloc_at _ _ _ _ rfl]
 ·rw [World.cell?_alloc_at _ _ _ _ (by simp)];rfl
 ·rw [World.cell?_alloc_at _ _ _ _ (by simp)];rfl
 ·rw [World.frozen?_alloc_at _ _ _ _ (by simp)]
end
theorem Sl.beside {w w' : World} {A : Option Addr} {n g : Nat} {xs : List Value} (h : Sl w w.heap.size A n xs) (hg : w.grownBy w' (some g)) (ha : 0 < n -> ∀ a,A = some a -> a.block ≠ g) : Sl w' w.heap.size A n xs :=
 ⟨h.1,fun hn => by
  obtain ⟨b,off,e,hb,hc⟩ := h.2 hn
  refine ⟨b,off,e,hb,fun j hj => ?_⟩
  rw [World.cell?_of_block (w := w) (a := ⟨b,off + j,none⟩) (hg.block b hb (fun e2 => by injection e2 with e2;exact ha hn _ e e2))]
  exact hc j hj⟩
theorem Sl.one_ (W : World) (x : Nat) (t : TypeId) : Sl (W.alloc (.cells #[.int .u64 (x : Int)] t)) (W.alloc (.cells #[.int .u64 (x : Int)] t)).heap.size (some ⟨W.heap.size,0,none⟩) 1 ([x].map wv) :=
 ⟨rfl,fun _ => ⟨W.heap.size,0,rfl,by simp,fun j hj => by
  obtain rfl : j = 0 := by omega
  rw [World.cell?_alloc_at _ _ _ _ rfl]
  rfl⟩⟩
def ArTo (w : World) (B p g n : Nat) (ws : List Nat) (w' : World) : Prop := Ar w' B p g n ws /\ w.grownBy w' (some g)
set_option maxRecDepth 100000 in
set_option maxHeartbeats 1000000 in
theorem yke {p g n : Nat} {ws : List Nat} {w : World} {B : Nat} (ha : Ar w B p g n ws) (h len : Int) (A : Option Addr) (m c : Nat) (l : List Int) (i : Nat) (hs : Sl w w.heap.size A m (l.map iv)) (hA : ∀ a,A = some a -> a.block ≠ g) (hc : cList ws (h,len) = some l) (hi : i < m) :
  Calls Tryz.prog 195 #[.pointer (some ⟨p,0,none⟩),.agg #[.int .i64 h,.int .i64 len],.slice A m c,.int .i64 (i : Int)] w fun e w' => e = .returned (.agg #[.int .i64 (kHead ws h l i),.int .i64 (len - 1)]) /\ ArTo w B p g n (kWords ws l i) w' := by
 have l1 : ws.length = n := ha.hlen
 have hn := ha.small
 have hlm : l.length = m := by have := hs.1;simpa using this
 obtain ⟨k,hd,hlen⟩ := xqh.1 hc
 have hm := xzb ws.length l hd k.mem
 have hgetD : ∀ {j : Nat} {z : Int},l[j]? = some z -> l.getD j 0 = z := fun {j z} e => by rw [List.getD_eq_getElem?_getD,e];rfl
 obtain ⟨b,off,z,hAe,hx,_⟩ := hs.int_ (j := i) hi
 have hz := k.mem z (List.mem_of_getElem? hx)
 obtain ⟨a,rfl⟩ : ∃ a : Nat,z = (a : Int) := ⟨z.toNat,by omega⟩
 subst hAe
 have HSL : Hid (∀ W,w.grownBy W (some g) -> Sl W w.heap.size (some ⟨b,off,none⟩) m (l.map iv)) := hidb (fun W hg => hs.beside hg (fun _ => hA))
 have HCI : Hid (∀ W,w.grownBy W (some g) -> W.cell? ⟨b,off + i,none⟩ = some (.int .i64 (a : Int))) := hidb (fun W hg => by
  obtain ⟨b2,off2,z2,e2,hx2,hc2⟩ := (HSL.out W hg).int_ (j := i) hi
  obtain ⟨rfl,rfl⟩ : b = b2 /\ off = off2 := by simpa using e2
  rw [hx] at hx2
  obtain rfl := Option.some.inj hx2
  exact hc2)
 obtain ⟨x,hwx⟩ : ∃ x,ws[a]? = some x := ⟨_,List.getElem?_eq_getElem (by omega)⟩
 have hga := hgetD hx
 have hgx : ws.getD a 0 = x := by rw [List.getD_eq_getElem?_getD,hwx];rfl
 have hxn : x <= n := by
  have e := xw9 (l := l) (i := i) (by omega)
  rw [hga] at e
  have k2 := e ▸ k
  have := k2.behind.range
  rw [show ((a : Int)).toNat = a from rfl,hgx] at this
  omega
 obtain ⟨W0,hW0⟩ : ∃ W0,W0 = (w.alloc (.cells #[.int .i64 h,.int .i64 len] 137)).alloc (.cells #[.int .i64 0,.int .i64 0] 137) := ⟨_,rfl⟩
 have k0 : ChSt w W0 B p g n w.heap.size (w.heap.size + 1) ws h len := by rw [hW0];exact ChSt.start ha h len _ _
 have hi0 : (0 : Int) <= (i : Int) := by omega
 have hi1 : (i : Int) < (m : Int) := by omega
 have hwrx : IntKind.i64.wrap (x : Int) = (x : Int) := IntWalk.i64_in _ (by omega)
 have hwl : IntKind.i64.wrap (len - 1) = len - 1 := IntWalk.i64_in _ (by omega)
 have cl := xX7 a x k0.ar hwx
 have hci0 := HCI.out _ k0.gr
 rw [hW0] at hci0
 have K0 := hidb k0
 have L1 := hidb l1
 have HW0 := hidb hW0
 have han : a < n := by omega
 have HAN := hidb han
 have CZ : Hid (∀ W ws',Ar W B p g n ws' -> Calls Tryz.prog 242 #[.pointer (some ⟨p,0,none⟩),.int .i64 (a : Int),.int .i64 1] W fun e w' => e = .returned (.int .i64 0) /\ Ar w' B p g n (ws'.set a 0) /\ W.grownBy w' (some g)) := hidb (fun W ws' hh => by
  have := yxk a 1 hh (by omega)
  rw [show List.replicate 1 0 = [0] from rfl,xvh (by have := hh.hlen;omega)] at this
  exact this)
 by_cases h0 : i = 0
 ·have hbi : ((i : Int) == 0) = true := by simp [h0]
  have HE : Hid (kWords ws l i = ws.set a 0 /\ kHead ws h l i = (x : Int)) := hidb (by
   unfold kWords kHead
   rw [if_pos h0,if_pos h0,hga,show ((a : Int)).toNat = a from rfl,hgx]
   exact ⟨rfl,rfl⟩)
  rw [HE.out.1,HE.out.2]
  clear ha hs hA hc k hd hlen hm hgetD hx hz hga hgx hwx k0 hW0 l1 han hlm hxn h0
  go_enter Tryz.func195,Tryz.ntmps195
  go_wp2_with (first
   | (go_at_call 219;rw [<- HW0.out];(with_reducible refine cl.mono ?_);rintro e w1 ⟨rfl,hb1⟩;have K1 := hidb (K0.out.below hb1);obtain ⟨p0,p1,r0,r1,rf0,rf1,pf0,pf1⟩ := K1.out.facts;have K2 := hidb (K1.out.set0 (x : Int));have hc1 := HCI.out _ K2.out.gr;have CZ1 := CZ.out _ _ K2.out.ar;clear hb1)
   | (go_at_call 242;(with_reducible refine CZ1.mono ?_);rintro e w2 ⟨rfl,ha2,hg2⟩;have K3 := hidb (K2.out.step hg2 ha2);obtain ⟨s0,s1,t0,t1,tf0,tf1,sf0,sf1⟩ := K3.out.facts;have K4 := hidb (K3.out.set1 (len - 1));obtain ⟨u0,u1,v0,v1,vf0,vf1,uf0,uf1⟩ := K4.out.facts;clear ha2 hg2))
  obtain ⟨y0,y1⟩ := xqi (w2.setCell ⟨w.heap.size,1,none⟩ (.int .i64 (len - 1))) (w.heap.size + 1) (.int .i64 (x : Int)) (.int .i64 (len - 1)) _ _ v0 v1
  refine bodyPost_ret (v := .agg #[.int .i64 (x : Int),.int .i64 (len - 1)]) (by simp [results,Tryz.results195,go_sem,y0,y1]) rfl ?_
  exact ⟨rfl,K4.out.fin _ _⟩
 ·have hbi : ((i : Int) == 0) = false := by simpa using h0
  obtain ⟨b2,off2,z2,hAe2,hx2,_⟩ := hs.int_ (j := i - 1) (by omega)
  obtain ⟨rfl,rfl⟩ : b = b2 /\ off = off2 := by simpa using hAe2
  have hz2 := k.mem z2 (List.mem_of_getElem? hx2)
  obtain ⟨y,rfl⟩ : ∃ y : Nat,z2 = (y : Int) := ⟨z2.toNat,by omega⟩
  have hgy := hgetD hx2
  have HCP : Hid (∀ W,w.grownBy W (some g) -> W.cell? ⟨b,off + (i - 1),none⟩ = some (.int .i64 (y : Int))) := hidb (fun W hg => by
   obtain ⟨b3,off3,z3,e3,hx3,hc3⟩ := (HSL.out W hg).int_ (j := i - 1) (by omega)
   obtain ⟨rfl,rfl⟩ : b = b3 /\ off = off3 := by simpa using e3
   rw [hx2] at hx3
   obtain rfl := Option.some.inj hx3
   exact hc3)
  have HE : Hid (kWords ws l i = (ws.set y x).set a 0 /\ kHead ws h l i = h) := hidb (by
   unfold kWords kHead
   rw [if_neg h0,if_neg h0,hga,hgy,show ((a : Int)).toNat = a from rfl,show ((y : Int)).toNat = y from rfl,hgx]
   exact ⟨rfl,rfl⟩)
  have hyn : y < n := by omega
  have CS : Hid (∀ W,Ar W B p g n ws -> Calls Tryz.prog 203 #[.pointer (some ⟨p,0,none⟩),.int .i64 (y : Int),.slice (some ⟨W.heap.size,0,none⟩) 1 1] (W.alloc (.cells #[.int .u64 (x : Int)] 273)) fun e w' => e = .returned (.int .i64 0) /\ Ar w' B p g n (ws.set y x) /\ W.grownBy w' (some g)) := hidb (fun W hh => by
   have := xww (ys := [x]) y (some ⟨W.heap.size,0,none⟩) 1 1 (hh.alloc (.cells #[.int .u64 (x : Int)] 273)) (Sl.one_ W x _) (by omega)
   rw [xvh (by have := hh.hlen;omega)] at this
   exact this.mono fun e w' q => ⟨q.1,q.2.1,xq4 (World.grownBy_alloc W _ _) q.2.2⟩)
  have hj0 : (0 : Int) <= (i : Int) - 1 := by omega
  have hj1 : (i : Int) - 1 < (m : Int) := by omega
  have hwi : IntKind.i64.wrap ((i : Int) - 1) = ((i - 1 : Nat) : Int) := by rw [IntWalk.i64_in _ (by omega)];omega
  rw [HE.out.1,HE.out.2]
  have hj0 : (0 : Int) <= ((i - 1 : Nat) : Int) := by omega
  have hj1 : ((i - 1 : Nat) : Int) < (m : Int) := by omega
  obtain ⟨i1,hi1e⟩ : ∃ i1 : Nat,i - 1 = i1 := ⟨_,rfl⟩
  rw [hi1e] at hwi hj0 hj1 HCP
  clear ha hs hA hc k hd hlen hm hgetD hx hz hga hgx hwx k0 hW0 l1 han hlm hxn h0 hx2 hz2 hgy hi1e hyn hAe2
  go_enter Tryz.func195,Tryz.ntmps195
  go_wp2_with (first
   | (go_at_call 219;rw [<- HW0.out];(with_reducible refine cl.mono ?_);rintro e w1 ⟨rfl,hb1⟩;have K1 := hidb (K0.out.below hb1);have hc1 := HCP.out _ K1.out.gr;have CS1 := CS.out _ K1.out.ar;clear hb1)
   | (go_at_call 203;(with_reducible refine CS1.mono ?_);rintro e w2 ⟨rfl,ha2,hg2⟩;have K2 := hidb (K1.out.step hg2 ha2);have hc2 := HCI.out _ K2.out.gr;have CZ1 := CZ.out _ _ K2.out.ar;clear ha2 hg2)
   | (go_at_call 242;(with_reducible refine CZ1.mono ?_);rintro e w3 ⟨rfl,ha3,hg3⟩;have K3 := hidb (K2.out.step hg3 ha3);obtain ⟨s0,s1,t0,t1,tf0,tf1,sf0,sf1⟩ := K3.out.facts;have K4 := hidb (K3.out.set1 (len - 1));obtain ⟨u0,u1,v0,v1,vf0,vf1,uf0,uf1⟩ := K4.out.facts;clear ha3 hg3))
  obtain ⟨y0,y1⟩ := xqi (w3.setCell ⟨w.heap.size,1,none⟩ (.int .i64 (len - 1))) (w.heap.size + 1) (.int .i64 h) (.int .i64 (len - 1)) _ _ v0 v1
  refine bodyPost_ret (v := .agg #[.int .i64 h,.int .i64 (len - 1)]) (by simp [results,Tryz.results195,go_sem,y0,y1]) rfl ?_
  exact ⟨rfl,K4.out.fin _ _⟩
theorem len_none {w : World} {B m : Nat} {A : Option Addr} (h : Sl w B A m (([] : List Int).map iv)) : m = 0 := h.1.symm
theorem len_one {w : World} {B m : Nat} {A : Option Addr} {a : Int} {l : List Int} (h : Sl w B A m ((a :: l).map iv)) : m = l.length + 1 := by
 have := h.1
 rw [List.length_map,List.length_cons] at this
 omega
def ResPop (w : World) (B p g n : Nat) (r : List Nat × (Int × Int) × Int × Int) (e : Ending) (w' : World) : Prop :=
 e = .returned (.tuple #[.agg #[.int .i64 r.2.1.1,.int .i64 r.2.1.2],.int .i64 r.2.2.1,.int .i64 r.2.2.2]) /\ ArTo w B p g n r.1 w'
def ResRem (w : World) (B p g n : Nat) (r : List Nat × (Int × Int) × Int) (e : Ending) (w' : World) : Prop :=
 e = .returned (.tuple #[.agg #[.int .i64 r.2.1.1,.int .i64 r.2.1.2],.int .i64 r.2.2]) /\ ArTo w B p g n r.1 w'
set_option maxRecDepth 100000 in
set_option maxHeartbeats 1000000 in
theorem xKq {p g n : Nat} {ws : List Nat} {w : World} {B : Nat} (ha : Ar w B p g n ws) (h len : Int) (hh : in64 h) (hl : in64 len) (hw : Wide ws) :
  Calls Tryz.prog 132 #[.pointer (some ⟨p,0,none⟩),.agg #[.int .i64 h,.int .i64 len]] w (ResPop w B p g n (cPop ws (h,len))) := by
 obtain ⟨W0,hW0⟩ : ∃ W0,W0 = (w.alloc (.cells #[.int .i64 h,.int .i64 len] 137)).alloc (.cells #[.int .i64 0,.int .i64 0] 137) := ⟨_,rfl⟩
 have k0 : ChSt w W0 B p g n w.heap.size (w.heap.size + 1) ws h len := by rw [hW0];exact ChSt.start ha h len _ _
 have cl := xvg k0.ar h len hh hl hw
 have K0 := hidb k0
 have HW0 := hidb hW0
 have hgl := ha.lt
 have HWZ : Hid (W0.heap.size = w.heap.size + 1 + 1) := hidb (by rw [hW0];simp)
 obtain ⟨R,hR⟩ : ∃ R,cList ws (h,len) = R := ⟨_,rfl⟩
 rw [hR] at cl
 unfold ResList at cl
 have HR := hidb hR
 rcases R with _ | _ | ⟨a,l⟩
 ·have HE : Hid (cPop ws (h,len) = (ws,(h,len),0,9)) := hidb (by unfold cPop;rw [hR])
  rw [HE.out]
  clear ha hh hl hw hW0 k0 hR
  go_enter Tryz.func132,Tryz.ntmps132
  go_wp2_with (first
   | (go_at_call 97;rw [<- HW0.out];(with_reducible refine cl.mono ?_);rintro e w1 ⟨A,m,c,out,rfl,h1,h2,h3,h4,hb1,h5⟩;have K1 := hidb (K0.out.below hb1);obtain ⟨p0,p1,r0,r1,rf0,rf1,pf0,pf1⟩ := K1.out.facts;clear hb1))
  obtain ⟨y0,y1⟩ := xqi w1 (w.heap.size + 1) (.int .i64 h) (.int .i64 len) _ _ r0 r1
  refine bodyPost_ret (v := .tuple #[.agg #[.int .i64 h,.int .i64 len],.int .i64 0,.int .i64 9]) (by simp [results,Tryz.results132,go_sem,y0,y1]) rfl ?_
  exact ⟨rfl,K1.out.fin _ _⟩
 ·have HE : Hid (cPop ws (h,len) = (ws,(h,len),0,6)) := hidb (by unfold cPop;rw [hR])
  rw [HE.out]
  clear ha hh hl hw hW0 k0 hR
  go_enter Tryz.func132,Tryz.ntmps132
  go_wp2_with (first
   | (go_at_call 97;rw [<- HW0.out];(with_reducible refine cl.mono ?_);rintro e w1 ⟨A,m,c,out,rfl,h1,h2,h3,h4,hb1,h5⟩;obtain rfl := h1 _ rfl;obtain rfl := len_none h3;have K1 := hidb (K0.out.below hb1);obtain ⟨p0,p1,r0,r1,rf0,rf1,pf0,pf1⟩ := K1.out.facts;clear hb1))
  obtain ⟨y0,y1⟩ := xqi w1 (w.heap.size + 1) (.int .i64 h) (.int .i64 len) _ _ r0 r1
  refine bodyPost_ret (v := .tuple #[.agg #[.int .i64 h,.int .i64 len],.int .i64 0,.int .i64 6]) (by simp [results,Tryz.results132,go_sem,y0,y1]) rfl ?_
  exact ⟨rfl,K1.out.fin _ _⟩
 ·have HE : Hid (cPop ws (h,len) = (kWords ws (a :: l) 0,(kHead ws h (a :: l) 0,len - 1),a,0)) := hidb (by
   have := cut_eq (i := 0) hR (by simp)
   unfold cPop
   rw [hR]
   simp only
   rw [show (a :: l).getD 0 0 = a from rfl] at this
   rw [this])
  rw [HE.out]
  have hlen : (l.length : Int) + 1 = len := by have := (xqr hR).2.2;simpa using this
  have hl60 : l.length + 1 <= 65536 := by
   have := xzb ws.length _ (xqr hR).1 (xqr hR).2.1
   have h1 := ha.hlen
   have h2 := ha.small
   simp only [List.length_cons] at this
   omega
  have HLEN := hidb hlen
  clear ha hh hl hw hW0 k0 hR hlen
  go_enter Tryz.func132,Tryz.ntmps132
  go_wp2_with (first
   | (go_at_call 97;rw [<- HW0.out];(with_reducible refine cl.mono ?_);rintro e w1 ⟨A,m,c,out,rfl,h1,h2,h3,h4,hb1,h5⟩;obtain rfl := h1 _ rfl;obtain rfl := len_one h3;have K1 := hidb (K0.out.below hb1);obtain ⟨p0,p1,r0,r1,rf0,rf1,pf0,pf1⟩ := K1.out.facts;have H3 := hidb h3;have H5 := hidb h5;clear hb1 h3 h5))
  obtain ⟨b,off,z,rfl,hx,hc⟩ := H3.out.int_ (j := 0) (by omega)
  obtain rfl : a = z := by simpa using hx
  rw [Nat.add_zero] at hc
  have hgs : g < W0.heap.size := Nat.lt_of_lt_of_le hgl K0.out.gr.size
  have KD := hidb (K1.out.below (Below.refl _ _).drew)
  have hsd : Sl w1.drew w1.drew.heap.size (some ⟨b,off,none⟩) (l.length + 1) ((a :: l).map iv) := H3.out.below (Below.refl w1.heap.size w1).drew
  have HSD := hidb hsd
  have cc := yke KD.out.ar h len (some ⟨b,off,none⟩) (l.length + 1) c (a :: l) 0 hsd (fun ad e => by have := H5.out ad e;omega) HR.out (by omega)
  rw [show ((0 : Nat) : Int) = 0 from rfl] at cc
  have HCC : Hid (∀ w2,w1.drew.grownBy w2 (some g) -> w2.cell? ⟨b,off,none⟩ = some (.int .i64 a)) := hidb (fun w2 hg => by
   obtain ⟨b2,off2,z2,e2,hx2,hc2⟩ := (HSD.out.beside hg (fun _ ad e => by have := H5.out ad e;omega)).int_ (j := 0) (by omega)
   obtain ⟨rfl,rfl⟩ : b = b2 /\ off = off2 := by simpa using e2
   obtain rfl : a = z2 := by simpa using hx2
   exact hc2)
  have hbne : w.heap.size + 1 ≠ b := by have h6 := H5.out _ rfl;have h7 := HWZ.out;simp only at h6;omega
  have hqne : w.heap.size + 1 ≠ w.heap.size := by omega
  have hlt0 : (0 : Int) < ((l.length + 1 : Nat) : Int) := by omega
  have hlt1 : (0 : Int) < (l.length : Int) + 1 := by omega
  clear hx h1 h2 h4 hgl hgs hsd
  go_region_held3 (fun W => W.cell? ⟨w.heap.size,0,none⟩ = some (.int .i64 h) /\ W.cell? ⟨w.heap.size,1,none⟩ = some (.int .i64 len) /\ W.cell? ⟨b,off,none⟩ = some (.int .i64 a))
   (first | (go_keep;done) | (with_reducible exact ⟨by assumption,by assumption,by assumption⟩))
   (first
    | (go_at_call 195;((with_reducible refine cc.mono ?_);rintro e w2 ⟨rfl,ha2,hg2⟩;have K2 := hidb (KD.out.step hg2 ha2);have hcc := HCC.out _ hg2;obtain ⟨s0,s1,t0,t1,tf0,tf1,sf0,sf1⟩ := K2.out.facts;have z0 := (xwy w2 (w.heap.size + 1) w.heap.size hqne (.int .i64 (kHead ws h (a :: l) 0)) (.int .i64 (len - 1)) 0).trans s0;have z1 := (xwy w2 (w.heap.size + 1) w.heap.size hqne (.int .i64 (kHead ws h (a :: l) 0)) (.int .i64 (len - 1)) 1).trans s1;have z2 := (xwy w2 (w.heap.size + 1) b hbne (.int .i64 (kHead ws h (a :: l) 0)) (.int .i64 (len - 1)) off).trans hcc;clear ha2 hg2 p0 p1 r0 r1 rf0 rf1 pf0 pf1)))
  go_wp2
  obtain ⟨y0,y1⟩ := xqi w2 (w.heap.size + 1) (.int .i64 (kHead ws h (a :: l) 0)) (.int .i64 (len - 1)) _ _ t0 t1
  refine bodyPost_ret (v := .tuple #[.agg #[.int .i64 (kHead ws h (a :: l) 0),.int .i64 (len - 1)],.int .i64 a,.int .i64 0]) (by simp [results,Tryz.results132,go_sem,y0,y1]) rfl ?_
  exact ⟨rfl,K2.out.fin _ _⟩
end Go.Proofs.YtlcdgmjinhbncaaGreat
namespace Go.Proofs.YtlcdgmjinhbncaaGreat
open Go.RowKit Go.Maps
set_option linter.unusedVariables false
theorem getD_at {xs : List Int} {i : Nat} (h : i < xs.length) : xs[i]? = some (xs.getD i 0) := by
 rw [List.getD_eq_getElem?_getD,List.getElem?_eq_getElem h];rfl
theorem xWa {l at' : List Int} (hd : l.Nodup) : (List.range (l ++ at').length).any (fun j => ((l ++ at').take j).contains ((l ++ at').getD j 0)) = cClash l at' := by
 unfold cClash
 rw [Bool.eq_iff_iff,List.any_eq_true,List.any_eq_true]
 constructor
 ·rintro ⟨j,hj,hc⟩
  have hj1 := List.mem_range.1 hj
  rw [List.length_append] at hj1
  have hm : (l ++ at').getD j 0 ∈ (l ++ at').take j := by simpa using hc
  by_cases hjl : j < l.length
  ·exfalso
   rw [List.take_append_of_le_length (by omega),List.getD_eq_getElem?_getD,List.getElem?_append_left hjl,<- List.getD_eq_getElem?_getD] at hm
   have e := xw9 hjl
   rw [e] at hd
   exact (List.nodup_append.1 hd).2.2 _ hm _ (List.mem_cons_self ..) rfl
  ·refine ⟨j - l.length,List.mem_range.2 (by omega),?_⟩
   have e : l.length + (j - l.length) = j := by omega
   rw [<- e,List.take_length_add_append,List.getD_eq_getElem?_getD,List.getElem?_append_right (by omega)] at hm
   rw [show l.length + (j - l.length) - l.length = j - l.length by omega,<- List.getD_eq_getElem?_getD] at hm
   simpa using List.mem_append.1 hm
 ·rintro ⟨i,hi,hc⟩
  have hi1 := List.mem_range.1 hi
  refine ⟨l.length + i,List.mem_range.2 (by rw [List.length_append];omega),?_⟩
  rw [List.take_length_add_append,List.getD_eq_getElem?_getD,List.getElem?_append_right (by omega),show l.length + i - l.length = i by omega,<- List.getD_eq_getElem?_getD]
  have := of_decide_eq_true hc
  simpa using this
theorem cIn_any (n : Nat) (at' : List Int) : (List.range at'.length).any (fun j => !(aIn n (at'.getD j 0) 1)) = !(cIn n at') := by
 cases hc : cIn n at' with
 | true =>
  have hc2 : ∀ x ∈ at',0 <= x /\ x < (n : Int) := fun x hx => by
   have := List.all_eq_true.1 hc x hx
   simpa using this
  show _ = false
  rw [List.any_eq_false]
  intro j hj
  have h1 := hc2 _ (List.mem_of_getElem? (getD_at (List.mem_range.1 hj)))
  unfold aIn
  simp only [Bool.not_eq_true',decide_eq_false_iff_not,Classical.not_not]
  omega
 | false =>
  show _ = true
  unfold cIn at hc
  rw [List.all_eq_false] at hc
  obtain ⟨x,hx,hb⟩ := hc
  obtain ⟨j,hj,e⟩ := List.getElem_of_mem hx
  rw [List.any_eq_true]
  refine ⟨j,List.mem_range.2 hj,?_⟩
  have e2 : at'.getD j 0 = x := by rw [List.getD_eq_getElem?_getD,List.getElem?_eq_getElem hj,e];rfl
  rw [e2]
  unfold aIn
  simp only [decide_eq_true_eq] at hb
  simp only [Bool.not_eq_true',decide_eq_false_iff_not]
  omega
theorem xWb {p g n tb : Nat} {ws : List Nat} {W : World} {B : Nat} (ha : Ar W B p g n ws) (hc : W.cell? ⟨tb,0,none⟩ = some (.pointer (some ⟨p,0,none⟩))) (z : Int) (hz : in64 z) :
  Calls Tryz.prog 199 #[.int .i64 z,.pointer (some ⟨tb,0,none⟩)] W fun e w' => e = .returned (.bool (!(aIn n z 1))) /\ W = w' := by
 have ci := yq6 ha z 1 hz (by unfold in64;omega)
 clear ha hz
 go_enter Tryz.func199,Tryz.ntmps199
 go_wp2_with (first | (go_at_call 200;(with_reducible refine ci.mono ?_);rintro e w' ⟨rfl,rfl⟩))
 go_ret
 exact ⟨rfl,rfl⟩
theorem ykf {w1 w2 w4 : World} {o : Obj} (hb2 : Below w1.heap.size w1 w2) (hg4 : (w2.alloc o).grownBy w4 (some w2.heap.size)) : Below w1.heap.size w1 w4 := by
 have h1 := hb2.alloc hb2.size o
 exact h1.grown hg4 (by have := hb2.size;simp;omega) (fun k e => by injection e with e;have := hb2.size;omega)
theorem ykg {s : List Nat × (Int × Int)} {l : List Int} {j : Nat} {a : Int} (h : l[j]? = some a) : cAll s (l.take (j + 1)) = cStep (cAll s (l.take j)) a := by
 rw [List.take_add_one,h]
 exact yjl _ _ _
set_option maxRecDepth 100000 in
set_option maxHeartbeats 2000000 in
theorem xXj {p g n : Nat} {ws : List Nat} {w : World} {B : Nat} (ha : Ar w B p g n ws) (h len : Int) (hh : in64 h) (hl : in64 len) (hw : Wide ws)
  (A2 : Option Addr) (m c2 : Nat) (at' : List Int) (hs2 : Sl w w.heap.size A2 m (at'.map iv)) (hA2 : 0 < m -> ∀ a,A2 = some a -> a.block ≠ g) (hm : m <= 65536) (hat : ∀ x ∈ at',in64 x) :
  Calls Tryz.prog 143 #[.pointer (some ⟨p,0,none⟩),.agg #[.int .i64 h,.int .i64 len],.slice A2 m c2] w (ResRem w B p g n (cPush ws (h,len) at')) := by
 obtain ⟨w0,hw0⟩ : ∃ w0,w0 = w.alloc (.cells #[.pointer (some ⟨p,0,none⟩)] 25) := ⟨_,rfl⟩
 have hz0 : w0.heap.size = w.heap.size + 1 := by rw [hw0];simp
 have hg0 : w.grownBy w0 (some g) := by rw [hw0];exact World.grownBy_alloc w _ _
 have ha0 : Ar w0 B p g n ws := by rw [hw0];exact ha.alloc _
 obtain ⟨W0,hW0⟩ : ∃ W0,W0 = (w0.alloc (.cells #[.int .i64 h,.int .i64 len] 137)).alloc (.cells #[.int .i64 0,.int .i64 0] 137) := ⟨_,rfl⟩
 have k0 : ChSt w0 W0 B p g n (w.heap.size + 1) (w.heap.size + 1 + 1) ws h len := by
  have := ChSt.start ha0 h len 137 137
  rw [hz0] at this
  rw [hW0];exact this
 have HTB : Hid (∀ W,w0.grownBy W (some g) -> W.cell? ⟨w.heap.size,0,none⟩ = some (.pointer (some ⟨p,0,none⟩))) := hidb (fun W hg => by
  rw [World.cell?_of_block (w := w0) (a := ⟨w.heap.size,0,none⟩) (hg.block w.heap.size (by omega) (fun e => by injection e with e;have := ha.lt;omega)),hw0]
  simp)
 have HAT : Hid (∀ W,w0.grownBy W (some g) -> Sl W W.heap.size A2 m (at'.map iv)) := hidb (fun W hg => (hs2.beside (xq4 hg0 hg) hA2).more (xq4 hg0 hg).size)
 have lat : at'.length = m := by have := hs2.1;simpa using this
 have cl := xvg k0.ar h len hh hl hw
 rw [hw0] at hW0
 have K0 := hidb k0
 have HW0 := hidb hW0
 have HG0 := hidb hg0
 have HW := hidb hw
 have hgl := ha.lt
 have hsm := ha.small
 have hal := ha.hlen
 have HZ0 := hidb hz0
 have HAT64 := hidb hat
 have LAT := hidb lat
 have HGS : Hid (g < W0.heap.size) := hidb (by have := k0.gr.size;omega)
 have HFIN : Hid (∀ W ws' h' l',ChSt w0 W B p g n (w.heap.size + 1) (w.heap.size + 1 + 1) ws' h' l' -> ∀ u v,ArTo w B p g n ws' ((W.setCell ⟨w.heap.size + 1 + 1,0,none⟩ u).setCell ⟨w.heap.size + 1 + 1,1,none⟩ v)) := hidb (fun W ws' h' l' k u v => by
  obtain ⟨f1,f2⟩ := k.fin u v
  exact ⟨f1,xq4 hg0 f2⟩)
 obtain ⟨R,hR⟩ : ∃ R,cList ws (h,len) = R := ⟨_,rfl⟩
 rw [hR] at cl
 unfold ResList at cl
 have HR := hidb hR
 rcases R with _ | l
 ·have HE : Hid (cPush ws (h,len) at' = (ws,(h,len),9)) := hidb (by unfold cPush;rw [hR])
  rw [HE.out]
  clear ha hh hl hw hW0 k0 hR ha0 hg0 hw0 hs2 hA2 hat lat hz0 hgl hsm hal
  go_enter Tryz.func143,Tryz.ntmps143
  go_wp2_with (first
   | (go_at_call 97;rw [<- HW0.out];(with_reducible refine cl.mono ?_);rintro e w1 ⟨A,k,c,out,rfl,h1,h2,h3,h4,hb1,h5⟩;have K1 := hidb (K0.out.below hb1);obtain ⟨p0,p1,r0,r1,rf0,rf1,pf0,pf1⟩ := K1.out.facts;clear hb1))
  obtain ⟨y0,y1⟩ := xqi w1 (w.heap.size + 1 + 1) (.int .i64 h) (.int .i64 len) _ _ r0 r1
  refine bodyPost_ret (v := .tuple #[.agg #[.int .i64 h,.int .i64 len],.int .i64 9]) (by simp [results,Tryz.results143,go_sem,y0,y1]) rfl ?_
  exact ⟨rfl,HFIN.out _ _ _ _ K1.out _ _⟩
 ·have hl60 : l.length <= 65536 := by
   have := xzb ws.length _ (xqr hR).1 (xqr hR).2.1
   omega
  have hnd := (xqr hR).1
  have hlen := (xqr hR).2.2
  have hhead := yxl hR
  rw [hal] at hhead
  simp only at hhead hlen
  have HND := hidb hnd
  have HLEN := hidb hlen
  have HHD := hidb hhead
  have HIN : Hid (∀ (w1 : World),Ar w1 B p g n ws -> w0.grownBy w1 (some g) -> Calls Tryz.prog 103 #[.slice A2 m c2,.func (.func 199) #[] #[.pointer (some ⟨w.heap.size,0,none⟩)]] w1 fun e w' => e = .returned (.bool (!(cIn n at'))) /\ w1 = w') := hidb (fun w1 har hg => by
   have c1 := xKo (t := w.heap.size) (fun j => !(aIn n (at'.getD j 0) 1)) (fun _ W => w1 = W) A2 m c2 at' w1 rfl (fun j W e => by subst e;exact HAT.out _ hg) (fun j z W hz e => by
    subst e
    have hgz : at'.getD j 0 = z := by rw [List.getD_eq_getElem?_getD,hz];rfl
    rw [hgz]
    exact (xWb har (HTB.out _ hg) z (HAT64.out z (List.mem_of_getElem? hz))).mono fun e w' q => ⟨q.1,q.2⟩) (by omega)
   rw [<- LAT.out,cIn_any] at c1
   rw [LAT.out] at c1
   exact c1.mono fun e w' q => ⟨q.1,q.2.choose_spec.2⟩)
  cases hci : cIn n at' with
  | false =>
   have HE : Hid (cPush ws (h,len) at' = (ws,(h,len),2)) := hidb (by unfold cPush;rw [hR];simp only;rw [hal,hci];rfl)
   rw [hci] at HIN
   rw [HE.out]
   clear ha hh hl hw hW0 k0 hR ha0 hg0 hw0 hs2 hA2 hat lat hz0 hgl hsm hal hnd hlen hhead hci
   go_enter Tryz.func143,Tryz.ntmps143
   go_wp2_with (first
    | (go_at_call 97;rw [<- HW0.out];(with_reducible refine cl.mono ?_);rintro e w1 ⟨A,k,c,out,rfl,h1,h2,h3,h4,hb1,h5⟩;have K1 := hidb (K0.out.below hb1);have cin := HIN.out w1 K1.out.ar K1.out.gr;obtain ⟨p0,p1,r0,r1,rf0,rf1,pf0,pf1⟩ := K1.out.facts;have tb1 := HTB.out _ K1.out.gr;clear hb1)
    | (go_at_call 103;(with_reducible refine cin.mono ?_);rintro e w' ⟨rfl,rfl⟩))
   obtain ⟨y0,y1⟩ := xqi w1 (w.heap.size + 1 + 1) (.int .i64 h) (.int .i64 len) _ _ r0 r1
   refine bodyPost_ret (v := .tuple #[.agg #[.int .i64 h,.int .i64 len],.int .i64 2]) (by simp [results,Tryz.results143,go_sem,y0,y1]) rfl ?_
   exact ⟨rfl,HFIN.out _ _ _ _ K1.out _ _⟩
  | true =>
   rw [hci] at HIN
   have HCAT : Hid (∀ (w1 : World) (A : Option Addr) (k c : Nat),w0.grownBy w1 (some g) -> Sl w1 w1.heap.size A k (l.map iv) -> Calls Tryz.prog 201 #[.slice (some ⟨w1.heap.size,0,none⟩) 2 2] (w1.alloc (.cells #[.slice A k c,.slice A2 m c2] 38)) fun e w' => ∃ A3 k3 c3,e = .returned (.slice A3 k3 c3) /\ Hid (k3 = (l ++ at').length) /\ w'.ownsRow (w1.heap.size + 1) 3 1 (.slice A3 k3 c3) k3 ((l ++ at').map iv) /\ Below w1.heap.size w1 w' /\ w1.heap.size + 1 <= w'.heap.size) := hidb (fun w1 A k c hg hsl => by
    have hbl : Below w1.heap.size w1 (w1.alloc (.cells #[.slice A k c,.slice A2 m c2] 38)) := (Below.refl _ _).alloc (Nat.le_refl _) _
    have hk : k <= 65536 := by have := hsl.1;rw [List.length_map] at this;omega
    have := xKp w1.heap.size A A2 k c m c2 l at' (w1.alloc (.cells #[.slice A k c,.slice A2 m c2] 38)) (by simp) (by simp) (by simp) ((hsl.below hbl).more hbl.size) (((HAT.out _ hg).below hbl).more hbl.size) hk hm
    refine this.mono fun e w' q => ?_
    obtain ⟨A3,c3,e1,e2,e3⟩ := q
    refine ⟨A3,_,c3,e1,hidb rfl,?_,hbl.trans (e3.mono hbl.size),by have := e3.size;simpa using this⟩
    simpa using e2)
   have HMET : Hid (∀ (w2 : World) (B3 : Nat) (A3 : Option Addr) (k3 c3 : Nat),B3 <= w2.heap.size -> Hid (k3 = (l ++ at').length) -> w2.ownsRow B3 3 1 (.slice A3 k3 c3) k3 ((l ++ at').map iv) -> Calls Tryz.prog 103 #[.slice A3 k3 c3,.func (.func 202) #[.map (some w2.heap.size)] #[]] (w2.alloc (.map #[] 0)) fun e w' => e = .returned (.bool (cClash l at')) /\ (w2.alloc (.map #[] 0)).grownBy w' (some w2.heap.size)) := hidb (fun w2 B3 A3 k3 c3 hB3 hk3 hown => by
    obtain rfl := hk3.out
    have hbl : Below w2.heap.size w2 (w2.alloc (.map #[] 0)) := (Below.refl _ _).alloc (Nat.le_refl _) _
    have hsl := Sl.of_own (xqk hown hbl)
    have hla : (l ++ at').length <= 131072 := by rw [List.length_append,LAT.out];omega
    have hz64 : ∀ z ∈ l ++ at',in64 z := fun z hz => by
     rcases List.mem_append.1 hz with hz | hz
     ·have := (xqr HR.out).2.1 z hz
      unfold in64;omega
     ·exact HAT64.out z hz
    have c1 := xJ2 (t := w2.heap.size) (fun j => ((l ++ at').take j).contains ((l ++ at').getD j 0)) (fun j W => (∃ D,W.ownsMap Tryz.prog 3 boolR w2.heap.size j D /\ NIs D ((l ++ at').take j)) /\ (w2.alloc (.map #[] 0)).grownBy W (some w2.heap.size)) A3 (l ++ at').length c3 (l ++ at') (w2.alloc (.map #[] 0)) ⟨⟨_,World.ownsMap_made w2 Tryz.prog 3 boolR,xZn⟩,xq3 (Below.refl _ _) _⟩
     (fun j W q => (hsl.beside q.2 (fun _ ad e => by
      subst e
      have := (hown.lt ad.block rfl).2
      omega)).more q.2.size)
     (fun j z W hz q => by
      obtain ⟨⟨D,q1,q2⟩,q3⟩ := q
      have hjl : j < (l ++ at').length := (List.getElem?_eq_some_iff.1 hz).1
      have hgz : (l ++ at').getD j 0 = z := by rw [List.getD_eq_getElem?_getD,hz];rfl
      have htk : (l ++ at').take (j + 1) = (l ++ at').take j ++ [z] := by rw [List.take_add_one,hz];rfl
      rw [hgz,htk]
      refine (xXi q1 q2 (by omega) z (hz64 z (List.mem_of_getElem? hz))).mono fun e w' r => ?_
      obtain ⟨r1,r2,r3⟩ := r
      exact ⟨r1,r2,xq4 q3 r3⟩) hla
    rw [xWa HND.out] at c1
    exact c1.mono fun e w' q => ⟨q.1,q.2.choose_spec.2.2⟩)
   cases hcc : cClash l at' with
   | true =>
    have HE : Hid (cPush ws (h,len) at' = (ws,(h,len),1)) := hidb (by unfold cPush;rw [hR];simp only;rw [hal,hci,hcc];rfl)
    rw [hcc] at HMET
    rw [HE.out]
    have hmk := @run_makeMap Tryz.prog
    clear ha hh hl hw hW0 k0 hR ha0 hg0 hw0 hs2 hA2 hat lat hz0 hgl hsm hal hnd hlen hhead hci hcc
    go_enter Tryz.func143,Tryz.ntmps143
    go_wp2_with (first
     | (go_at_call 97;rw [<- HW0.out];(with_reducible refine cl.mono ?_);rintro e w1 ⟨A,k,c,out,rfl,h1,h2,h3,h4,hb1,h5⟩;obtain rfl := h1 _ rfl;have K1 := hidb (K0.out.below hb1);have cin := HIN.out w1 K1.out.ar K1.out.gr;have tb1 := HTB.out _ K1.out.gr;have ccat := HCAT.out w1 A k c K1.out.gr h3;clear hb1 h3)
     | (go_at_call 103;(with_reducible refine cin.mono ?_);rintro e w' ⟨rfl,rfl⟩;clear cin)
     | (go_at_call 201;(with_reducible refine ccat.mono ?_);rintro e w2 ⟨A3,k3,c3,rfl,hk3,ho2,hb2,hz2⟩;have cmet := HMET.out w2 _ A3 k3 c3 hz2 hk3 ho2;have HB2 := hidb hb2;clear ho2 hb2)
     | (go_at_call 103;(with_reducible refine cmet.mono ?_);rintro e w4 ⟨rfl,hg4⟩;have K4 := hidb (K1.out.below (ykf HB2.out hg4));obtain ⟨p0,p1,r0,r1,rf0,rf1,pf0,pf1⟩ := K4.out.facts;clear hg4))
    obtain ⟨y0,y1⟩ := xqi w4 (w.heap.size + 1 + 1) (.int .i64 h) (.int .i64 len) _ _ r0 r1
    refine bodyPost_ret (v := .tuple #[.agg #[.int .i64 h,.int .i64 len],.int .i64 1]) (by simp [results,Tryz.results143,go_sem,y0,y1]) rfl ?_
    exact ⟨rfl,HFIN.out _ _ _ _ K4.out _ _⟩
   | false =>
    have HE : Hid (cPush ws (h,len) at' = ((cAll (ws,(h,len)) at').1,(cAll (ws,(h,len)) at').2,0)) := hidb (by unfold cPush;rw [hR];simp only;rw [hal,hci,hcc];rfl)
    rw [hcc] at HMET
    rw [HE.out]
    have hmk := @run_makeMap Tryz.prog
    have HATN : Hid (∀ x ∈ at',0 <= x /\ x < (n : Int)) := hidb (fun x hx => by
     have := List.all_eq_true.1 hci x hx
     simpa using this)
    have HAL := hidb hal
    clear ha hh hl hw hW0 k0 hR ha0 hg0 hw0 hs2 hA2 hat lat hz0 hgl hal hnd hlen hhead hci hcc
    go_enter Tryz.func143,Tryz.ntmps143
    go_wp2_with (first
     | (go_at_call 97;rw [<- HW0.out];(with_reducible refine cl.mono ?_);rintro e w1 ⟨A,k,c,out,rfl,h1,h2,h3,h4,hb1,h5⟩;obtain rfl := h1 _ rfl;have K1 := hidb (K0.out.below hb1);have cin := HIN.out w1 K1.out.ar K1.out.gr;have tb1 := HTB.out _ K1.out.gr;have ccat := HCAT.out w1 A k c K1.out.gr h3;clear hb1 h3)
     | (go_at_call 103;(with_reducible refine cin.mono ?_);rintro e w' ⟨rfl,rfl⟩;clear cin)
     | (go_at_call 201;(with_reducible refine ccat.mono ?_);rintro e w2 ⟨A3,k3,c3,rfl,hk3,ho2,hb2,hz2⟩;have cmet := HMET.out w2 _ A3 k3 c3 hz2 hk3 ho2;have HB2 := hidb hb2;clear ho2 hb2)
     | (go_at_call 103;(with_reducible refine cmet.mono ?_);rintro e w4 ⟨rfl,hg4⟩;have K4 := hidb (K1.out.below (ykf HB2.out hg4));clear hg4 cmet ccat))
    clear cl tb1 HB2 hmk h1 h2 h4 h5 K1
    go_loopw [39] (fun kv wr => ∃ j : Nat,j <= m /\ kv = .int .i64 j /\ Hid (ChSt w0 wr B p g n (w.heap.size + 1) (w.heap.size + 1 + 1) (cAll (ws,(h,len)) (at'.take j)).1 (cAll (ws,(h,len)) (at'.take j)).2.1 (cAll (ws,(h,len)) (at'.take j)).2.2)) (fun kv _ => (m - intOf kv).toNat)
    case atStart => exact ⟨0,Nat.zero_le _,rfl,K4⟩
    case round =>
     obtain ⟨j,hj,rfl,KJ⟩ := hrel
     by_cases hlt : j < m
     ·obtain ⟨b,off,z,rfl,hx,hcz⟩ := (HAT.out _ KJ.out.gr).int_ hlt
      have hzn := HATN.out z (List.mem_of_getElem? hx)
      obtain ⟨a,rfl⟩ : ∃ a : Nat,z = (a : Int) := ⟨z.toNat,by omega⟩
      have htk := ykg (s := (ws,(h,len))) hx
      have hhd := yjm (at'.take j) (ws,(h,len)) n HHD.out (fun x hx => HATN.out x (List.mem_of_mem_take hx))
      have hct := xvc (at'.take j) (ws,(h,len))
      have hwl := xzy (at'.take j) (ws,(h,len))
      rw [List.length_take] at hct
      have hlt2 := LAT.out
      have hln := HLEN.out
      obtain ⟨⟨w',h',l'⟩,hS⟩ : ∃ S,cAll (ws,(h,len)) (at'.take j) = S := ⟨_,rfl⟩
      rw [hS] at KJ htk hhd hct hwl
      simp only at KJ htk hhd hct hwl
      rw [HAL.out] at hwl
      obtain ⟨hn',rfl⟩ : ∃ hn' : Nat,h' = (hn' : Int) := ⟨h'.toNat,by omega⟩
      have CS : Hid (∀ (u : Nat) (W : World),Ar W B p g n w' -> Calls Tryz.prog 203 #[.pointer (some ⟨p,0,none⟩),.int .i64 (a : Int),.slice (some ⟨W.heap.size,0,none⟩) 1 1] (W.alloc (.cells #[.int .u64 (u : Int)] 273)) fun e w'' => e = .returned (.int .i64 0) /\ Ar w'' B p g n (w'.set a u) /\ W.grownBy w'' (some g)) := hidb (fun u W hh => by
       have := xww (ys := [u]) a (some ⟨W.heap.size,0,none⟩) 1 1 (hh.alloc (.cells #[.int .u64 (u : Int)] 273)) (Sl.one_ W u _) (by omega)
       rw [xvh (by omega)] at this
       exact this.mono fun e w'' q => ⟨q.1,q.2.1,xq4 (World.grownBy_alloc W _ _) q.2.2⟩)
      have cs := CS.out hn' wr KJ.out.ar
      have HST : Hid (cAll (ws,(h,len)) (at'.take (j + 1)) = (w'.set a hn',((a : Int) + 1,l' + 1))) := hidb htk
      have hwu : IntKind.u64.wrap (hn' : Int) = (hn' : Int) := IntWalk.u64_in _ (by omega)
      have hwa : IntKind.i64.wrap ((a : Int) + 1) = (a : Int) + 1 := IntWalk.i64_in _ (by omega)
      have hwll : IntKind.i64.wrap (l' + 1) = l' + 1 := IntWalk.i64_in _ (by omega)
      have hj0 : (0 : Int) <= (j : Int) := by omega
      have hj1 : (j : Int) < (m : Int) := by omega
      obtain ⟨p0,p1,r0,r1,rf0,rf1,pf0,pf1⟩ := KJ.out.facts
      have tb1 := HTB.out _ KJ.out.gr
      clear hx hzn htk hhd hct hwl hlt2 hln hS
      go_wp2_with (first
       | (go_at_call 203;(with_reducible refine cs.mono ?_);rintro e w5 ⟨rfl,ha5,hg5⟩;have K5 := hidb (KJ.out.step hg5 ha5);obtain ⟨s0,s1,t0,t1,tf0,tf1,sf0,sf1⟩ := K5.out.facts;have K6 := hidb ((K5.out.set0 ((a : Int) + 1)).set1 (l' + 1));clear ha5 hg5 p0 p1 r0 r1 rf0 rf1 pf0 pf1))
      go_roundw
      case rel => exact ⟨j + 1,by omega,by go_num,hidb (by rw [HST.out];exact K6.out)⟩
      case measure => simp [intOf];omega
     ·obtain rfl : j = m := by omega
      rw [List.take_of_length_le (by have := LAT.out;omega)] at KJ
      obtain ⟨⟨w',h',l'⟩,hS⟩ : ∃ S,cAll (ws,(h,len)) at' = S := ⟨_,rfl⟩
      rw [hS] at KJ
      simp only at KJ
      obtain ⟨p0,p1,r0,r1,rf0,rf1,pf0,pf1⟩ := KJ.out.facts
      have HSS := hidb hS
      clear hS
      go_wp2
      obtain ⟨y0,y1⟩ := xqi wr (w.heap.size + 1 + 1) (.int .i64 h') (.int .i64 l') _ _ r0 r1
      refine bodyPost_ret (v := .tuple #[.agg #[.int .i64 h',.int .i64 l'],.int .i64 0]) (by simp [results,Tryz.results143,go_sem,y0,y1]) rfl ?_
      rw [HSS.out]
      exact ⟨rfl,HFIN.out _ _ _ _ KJ.out _ _⟩
end Go.Proofs.YtlcdgmjinhbncaaGreat
namespace Go.Proofs.YtlcdgmjinhbncaaGreat
open Go.RowKit
set_option linter.unusedVariables false
end Go.Proofs.YtlcdgmjinhbncaaGreat
