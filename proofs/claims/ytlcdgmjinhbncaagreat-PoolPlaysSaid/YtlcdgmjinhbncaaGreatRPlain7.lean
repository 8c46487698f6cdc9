import Derived.Below
namespace Go.Proofs.YtlcdgmjinhbncaaGreat
set_option linter.unusedVariables false
def xNew (pages : Int) : List Int := List.replicate (max 0 (min pages 1024)).toNat 0
def xThere (len : Nat) (r : Int × Int) : Bool := decide (1 <= r.2 /\ 0 <= r.1 /\ r.1 < len /\ r.2 <= len /\ r.1 + r.2 <= len)
def xOf (x : List Int) (page : Int) : Int := if 0 <= page /\ page < x.length then x.getD page.toNat 0 else 0
def runLen (x : List Int) (id : Int) (p : Nat) : Nat := ((x.drop p).takeWhile (· == id)).length
def runsAt (x : List Int) (id : Int) : Nat -> Nat -> List (Int × Int)
 | 0,_ => []
 | f + 1,p => if p < x.length then (if 0 < runLen x id p then ((p : Int),(runLen x id p : Int)) :: runsAt x id f (p + runLen x id p + 1) else runsAt x id f (p + 1)) else []
def xRuns (x : List Int) (id : Int) : List (Int × Int) := runsAt x id (x.length + 1) 0
def putPage (x : List Int) (id : Int) (drop : Bool) (out : List Int) (p : Nat) : Option (List Int) :=
 if (drop && x.getD p 0 == 0) || (!drop && out.getD p 0 != 0) then none else some (out.set p (if drop then 0 else id))
def putPages (x : List Int) (id : Int) (drop : Bool) (s : Nat) : Nat -> List Int -> Option (List Int)
 | 0,out => some out
 | k + 1,out => (putPages x id drop s k out).bind fun o => putPage x id drop o (s + k)
def putRuns (x : List Int) (id : Int) (drop : Bool) (rs : List (Int × Int)) : Option (List Int) :=
 rs.foldl (fun o r => o.bind (putPages x id drop r.1.toNat r.2.toNat)) (some x)
def putEnd (x : List Int) : Option (List Int) -> List Int × Int
 | some o => (o,0)
 | none => (x,9)
def xPut (x : List Int) (id : Int) (rs : List (Int × Int)) (drop : Bool) : List Int × Int :=
 if !drop && decide (id < 1) then (x,1) else if rs.all (xThere x.length) then putEnd x (putRuns x id drop rs) else (x,2)
theorem xkg (x : List Int) (id : Int) (p : Nat) : runLen x id p <= x.length - p := by
 unfold runLen
 refine Nat.le_trans (List.takeWhile_sublist _).length_le ?_
 rw [List.length_drop];omega
theorem xvq {α : Type} (q : α -> Bool) : ∀ (l : List α) (n : Nat),n < (l.takeWhile q).length -> ∃ y,l[n]? = some y /\ q y = true
 | [],n,h => by simp at h
 | y :: l,n,h => by
  rw [List.takeWhile_cons] at h
  by_cases c : q y = true
  ·rw [if_pos c] at h
   cases n with
   | zero => exact ⟨y,rfl,c⟩
   | succ n => exact xvq q l n (by simpa using h)
  ·rw [if_neg c] at h;simp at h
theorem xkh {α : Type} (q : α -> Bool) : ∀ (l : List α) (y : α),l[(l.takeWhile q).length]? = some y -> q y = false
 | [],y,h => by simp at h
 | x :: l,y,h => by
  rw [List.takeWhile_cons] at h
  by_cases c : q x = true
  ·rw [if_pos c] at h
   exact xkh q l y (by simpa using h)
  ·rw [if_neg c] at h
   obtain rfl : x = y := by simpa using h
   simpa using c
theorem xz0 (x : List Int) (id : Int) (p n : Nat) (y : Int) (hn : n <= runLen x id p) (hy : x[p + n]? = some y) : n < runLen x id p ↔ y = id := by
 constructor
 ·intro h
  obtain ⟨z,hz,hq⟩ := xvq (· == id) (x.drop p) n h
  rw [List.getElem?_drop,hy] at hz
  obtain rfl : y = z := by simpa using hz
  simpa using hq
 ·intro e
  refine Nat.lt_of_le_of_ne hn fun e2 => ?_
  have := xkh (· == id) (x.drop p) y (by rw [show ((x.drop p).takeWhile (· == id)).length = n from e2.symm,List.getElem?_drop];exact hy)
  simp [e] at this
theorem xzs (x : List Int) (id : Int) : ∀ f g p,x.length < f + p -> x.length < g + p -> runsAt x id f p = runsAt x id g p
 | 0,g,p,h1,h2 => by
  cases g with
  | zero => rfl
  | succ g => show [] = runsAt x id (g + 1) p;unfold runsAt;rw [if_neg (by omega)]
 | f + 1,0,p,h1,h2 => by show runsAt x id (f + 1) p = [];unfold runsAt;rw [if_neg (by omega)]
 | f + 1,g + 1,p,h1,h2 => by
  unfold runsAt
  split
  ·split
   ·rw [xzs x id f g _ (by omega) (by omega)]
   ·rw [xzs x id f g _ (by omega) (by omega)]
  ·rfl
def runsFrom (x : List Int) (id : Int) (p : Nat) : List (Int × Int) := runsAt x id (x.length + 1) p
theorem xJg (x : List Int) (id : Int) (p : Nat) (h : x.length <= p) : runsFrom x id p = [] := by
 unfold runsFrom runsAt;rw [if_neg (by omega)]
theorem xZ1 (x : List Int) (id : Int) (p : Nat) (h : p < x.length) (h0 : 0 < runLen x id p) : runsFrom x id p = ((p : Int),(runLen x id p : Int)) :: runsFrom x id (p + runLen x id p + 1) := by
 unfold runsFrom
 rw [runsAt,if_pos h,if_pos h0,xzs x id x.length (x.length + 1) _ (by omega) (by omega)]
theorem xZ2 (x : List Int) (id : Int) (p : Nat) (h : p < x.length) (h0 : runLen x id p = 0) : runsFrom x id p = runsFrom x id (p + 1) := by
 unfold runsFrom
 rw [runsAt,if_pos h,if_neg (by omega),xzs x id x.length (x.length + 1) _ (by omega) (by omega)]
theorem xxc (x : List Int) (id : Int) : ∀ f p,(runsAt x id f p).length <= x.length - p
 | 0,_ => by simp [runsAt]
 | f + 1,p => by
  unfold runsAt
  split
  ·next h =>
   split
   ·next h0 =>
    have := xxc x id f (p + runLen x id p + 1)
    rw [List.length_cons];omega
   ·have := xxc x id f (p + 1);omega
  ·simp
theorem xZ3 {x : List Int} {id : Int} {drop : Bool} {s : Nat} {out : List Int} : ∀ {k : Nat} (m : Nat),k <= m -> putPages x id drop s k out = none -> putPages x id drop s m out = none
 | k,0,h,e => by
  obtain rfl : k = 0 := by omega
  exact e
 | k,m + 1,h,e => by
  by_cases c : k = m + 1
  ·rw [<- c];exact e
  ·unfold putPages
   rw [xZ3 (k := k) m (by omega) e];rfl
theorem yqv (x : List Int) (id : Int) (drop : Bool) : ∀ rs : List (Int × Int),rs.foldl (fun o r => o.bind (putPages x id drop r.1.toNat r.2.toNat)) none = none
 | [] => rfl
 | _ :: rs => yqv x id drop rs
def pgs (rs : List (Int × Int)) : List Nat := rs.flatMap fun r => (List.range r.2.toNat).map (r.1.toNat + ·)
def okOne (x : List Int) (drop : Bool) (d : List Nat) (p : Nat) : Bool := if drop then x.getD p 0 != 0 else x.getD p 0 == 0 && !d.contains p
def okAll (x : List Int) (drop : Bool) : List Nat -> List Nat -> Bool
 | _,[] => true
 | d,p :: ps => okOne x drop d p && okAll x drop (d ++ [p]) ps
def writeAll (x : List Int) (v : Int) (ps : List Nat) : List Int := ps.foldl (fun o p => o.set p v) x
theorem xzt (x : List Int) (v : Int) (ps : List Nat) (p : Nat) : writeAll x v (ps ++ [p]) = (writeAll x v ps).set p v := by
 unfold writeAll;rw [List.foldl_append];rfl
theorem xxd (v : Int) : ∀ (ps : List Nat) (x : List Int),(writeAll x v ps).length = x.length
 | [],_ => rfl
 | p :: ps,x => by
  show (writeAll (x.set p v) v ps).length = _
  rw [xxd v ps,List.length_set]
theorem getD_set (x : List Int) (p q : Nat) (v : Int) (hp : p < x.length) : (x.set p v).getD q 0 = if p = q then v else x.getD q 0 := by
 rw [List.getD_eq_getElem?_getD,List.getElem?_set,List.getD_eq_getElem?_getD]
 split
 ·next h => subst h;rfl
 ·rfl
theorem xz1 (x : List Int) (v : Int) (q : Nat) (d : List Nat) (hd : ∀ p ∈ d,p < x.length) : (writeAll x v d).getD q 0 = if d.contains q then v else x.getD q 0 := by
 suffices h : ∀ n (d : List Nat),d.length = n -> (∀ p ∈ d,p < x.length) -> (writeAll x v d).getD q 0 = if d.contains q then v else x.getD q 0 from h _ d rfl hd
 intro n
 induction n with
 | zero => intro d hn _;rw [List.eq_nil_of_length_eq_zero hn];rfl
 | succ n ih =>
  intro d hn hd
  obtain ⟨e,p,rfl⟩ : ∃ e p,d = e ++ [p] := by
   refine ⟨d.dropLast,d.getLast (fun h => by rw [h] at hn;cases hn),(List.dropLast_concat_getLast _).symm⟩
  rw [xzt,getD_set _ _ _ _ (by rw [xxd];exact hd p (by simp)),ih e (by simpa using hn) (fun y hy => hd y (by simp [hy]))]
  by_cases h : p = q
  ·subst h;simp
  ·rw [if_neg h]
   have : (e ++ [p]).contains q = e.contains q := by
    simp [Ne.symm h]
   rw [this]
theorem yqw (x : List Int) (drop : Bool) (p : Nat) : ∀ (ps d : List Nat),okAll x drop d (ps ++ [p]) = (okAll x drop d ps && okOne x drop (d ++ ps) p)
 | [],d => by simp [okAll]
 | q :: ps,d => by
  show (okOne x drop d q && okAll x drop (d ++ [q]) (ps ++ [p])) = (okOne x drop d q && okAll x drop (d ++ [q]) ps && _)
  rw [yqw x drop p ps (d ++ [q]),Bool.and_assoc,List.append_assoc];rfl
def askAll (ok : List Nat -> Nat -> Bool) : List Nat -> List Nat -> Bool
 | _,[] => true
 | d,p :: ps => ok d p && askAll ok (d ++ [p]) ps
theorem xz2 (ok : List Nat -> Nat -> Bool) (p : Nat) : ∀ (ps d : List Nat),askAll ok d (ps ++ [p]) = (askAll ok d ps && ok (d ++ ps) p)
 | [],d => by simp [askAll]
 | q :: ps,d => by
  show (ok d q && askAll ok (d ++ [q]) (ps ++ [p])) = (ok d q && askAll ok (d ++ [q]) ps && _)
  rw [xz2 ok p ps (d ++ [q]),Bool.and_assoc,List.append_assoc];rfl
theorem xzu (ok : List Nat -> Nat -> Bool) (b : List Nat) : ∀ (a d : List Nat),askAll ok d a = false -> askAll ok d (a ++ b) = false
 | [],d,h => by cases h
 | p :: a,d,h => by
  show (ok d p && askAll ok (d ++ [p]) (a ++ b)) = false
  rw [Bool.and_eq_false_iff]
  rcases Bool.and_eq_false_iff.1 (show (ok d p && askAll ok (d ++ [p]) a) = false from h) with h1 | h1
  ·exact Or.inl h1
  ·exact Or.inr (xzu ok b a _ h1)
theorem xwg (x : List Int) (drop : Bool) : ∀ (ps d : List Nat),okAll x drop d ps = askAll (okOne x drop) d ps
 | [],d => rfl
 | p :: ps,d => by
  show (okOne x drop d p && okAll x drop (d ++ [p]) ps) = (okOne x drop d p && askAll (okOne x drop) (d ++ [p]) ps)
  rw [xwg x drop ps]
def putAll (x : List Int) (id : Int) (drop : Bool) (ps : List Nat) (o : Option (List Int)) : Option (List Int) := ps.foldl (fun o p => o.bind fun y => putPage x id drop y p) o
theorem xk2 (x : List Int) (id : Int) (drop : Bool) : ∀ ps,putAll x id drop ps none = none
 | [] => rfl
 | _ :: ps => xk2 x id drop ps
theorem xki (x : List Int) (id : Int) (drop : Bool) (a b : List Nat) (o : Option (List Int)) : putAll x id drop (a ++ b) o = putAll x id drop b (putAll x id drop a o) := by
 unfold putAll;rw [List.foldl_append]
theorem xvr (x : List Int) (id : Int) (drop : Bool) (s : Nat) (out : List Int) : ∀ k,putPages x id drop s k out = putAll x id drop ((List.range k).map (s + ·)) (some out)
 | 0 => rfl
 | k + 1 => by
  rw [List.range_succ,List.map_append,xki,<- xvr x id drop s out k];rfl
theorem xVa (x : List Int) (id : Int) (drop : Bool) (rs : List (Int × Int)) : putRuns x id drop rs = putAll x id drop (pgs rs) (some x) := by
 unfold putRuns
 suffices h : ∀ (rs : List (Int × Int)) (o : Option (List Int)),rs.foldl (fun o r => o.bind (putPages x id drop r.1.toNat r.2.toNat)) o = putAll x id drop (pgs rs) o from h rs _
 intro rs
 induction rs with
 | nil => intro o;rfl
 | cons r rs ih =>
  intro o
  rw [List.foldl_cons,ih]
  show _ = putAll x id drop ((List.range r.2.toNat).map (r.1.toNat + ·) ++ pgs rs) o
  rw [xki]
  congr 1
  cases o with
  | none => rw [xk2];rfl
  | some y => exact xvr x id drop r.1.toNat y r.2.toNat
theorem yqx (x : List Int) (id : Int) (drop : Bool) (hid : drop = false -> 1 <= id) (d : List Nat) (p : Nat) (hd : ∀ q ∈ d,q < x.length) (v : Int) (hv : v = if drop then 0 else id) :
  putPage x id drop (writeAll x v d) p = if okOne x drop d p then some (writeAll x v (d ++ [p])) else none := by
 unfold putPage okOne
 rw [xzt,xz1 x v p d hd,hv]
 cases drop with
 | true => simp
 | false =>
  have := hid rfl
  simp
  by_cases hc : p ∈ d
  ·simp [hc];omega
  ·by_cases h : x.getD p 0 = 0 <;> simp_all
theorem xJh (x : List Int) (id : Int) (drop : Bool) (hid : drop = false -> 1 <= id) (v : Int) (hv : v = if drop then 0 else id) : ∀ (ps d : List Nat),(∀ q ∈ d,q < x.length) -> (∀ q ∈ ps,q < x.length) ->
  putAll x id drop ps (some (writeAll x v d)) = if okAll x drop d ps then some (writeAll x v (d ++ ps)) else none
 | [],d,_,_ => by simp [okAll,putAll]
 | p :: ps,d,h1,h2 => by
  show putAll x id drop ps ((some (writeAll x v d)).bind fun y => putPage x id drop y p) = _
  show putAll x id drop ps (putPage x id drop (writeAll x v d) p) = if (okOne x drop d p && okAll x drop (d ++ [p]) ps) = true then _ else none
  rw [yqx x id drop hid d p h1 v hv]
  by_cases c : okOne x drop d p = true
  ·rw [if_pos c,xJh x id drop hid v hv ps (d ++ [p]) (fun q hq => by rcases List.mem_append.1 hq with h | h;exact h1 q h;exact h2 q (by rw [List.mem_singleton.1 h];simp)) (fun q hq => h2 q (by simp [hq])),c,Bool.true_and,List.append_assoc];rfl
  ·rw [if_neg c,xk2]
   rw [show okOne x drop d p = false by simpa using c];rfl
theorem xZ4 (rs : List (Int × Int)) (r : Int × Int) : pgs (rs ++ [r]) = pgs rs ++ (List.range r.2.toNat).map (r.1.toNat + ·) := by
 unfold pgs;rw [List.flatMap_append];simp
theorem xQv (a b : List (Int × Int)) : pgs (a ++ b) = pgs a ++ pgs b := by unfold pgs;rw [List.flatMap_append]
theorem xJi (n : Nat) (rs : List (Int × Int)) (h : rs.all (xThere n) = true) : ∀ p ∈ pgs rs,p < n := by
 intro p hp
 obtain ⟨r,hr,hq⟩ := List.mem_flatMap.1 hp
 obtain ⟨k,hk,rfl⟩ := List.mem_map.1 hq
 have := of_decide_eq_true (List.all_eq_true.1 h r hr)
 have := List.mem_range.1 hk
 omega
theorem xjn (x : List Int) (id : Int) (rs : List (Int × Int)) (drop : Bool) (hid : drop = false -> 1 <= id) (h : rs.all (xThere x.length) = true) :
  xPut x id rs drop = if okAll x drop [] (pgs rs) then (writeAll x (if drop then 0 else id) (pgs rs),0) else (x,9) := by
 unfold xPut
 rw [if_neg (by cases drop with
  | true => simp
  | false => have := hid rfl;simp;omega),if_pos h,xVa]
 have := xJh x id drop hid _ rfl (pgs rs) [] (fun q hq => by cases hq) (xJi _ rs h)
 rw [List.nil_append] at this
 rw [show (some x : Option (List Int)) = some (writeAll x (if drop then 0 else id) []) from rfl,this]
 split <;> rfl
theorem xJj (x : List Int) (id : Int) (rs : List (Int × Int)) (drop : Bool) (hid : drop = false -> 1 <= id) (h : rs.all (xThere x.length) = false) : xPut x id rs drop = (x,2) := by
 unfold xPut
 rw [if_neg (by cases drop with
  | true => simp
  | false => have := hid rfl;simp;omega),h];rfl
theorem yj3 (x : List Int) (id : Int) (rs : List (Int × Int)) (h : id < 1) : xPut x id rs false = (x,1) := by
 unfold xPut;rw [if_pos (by simpa using h)]
theorem xVb (x : List Int) (id : Int) (p : Nat) (y : Int) (hy : x[p]? = some y) : 0 < runLen x id p ↔ y = id := xz0 x id p 0 y (Nat.zero_le _) hy
theorem yqy (x : List Int) : ∀ (ps d : List Nat),(∀ p ∈ ps,x.getD p 0 ≠ 0) -> okAll x true d ps = true
 | [],_,_ => rfl
 | q :: ps,d,h => by
  show (okOne x true d q && okAll x true (d ++ [q]) ps) = true
  rw [yqy x ps _ (fun p hp => h p (by simp [hp])),Bool.and_true]
  have := h q (by simp)
  unfold okOne
  simpa using this
def pagesAt (x : List Int) (id : Int) (p k : Nat) : List Nat := (List.range' p k).filter fun q => x.getD q 0 == id
theorem xwh (x : List Int) (id : Int) (p : Nat) : ∀ k,(∀ q,p <= q -> q < p + k -> x.getD q 0 = id) -> pagesAt x id p k = List.range' p k := fun k h => by
 unfold pagesAt
 rw [List.filter_eq_self]
 intro q hq
 obtain ⟨h1,h2⟩ := List.mem_range'_1.1 hq
 simpa using h q h1 h2
theorem xk3 (x : List Int) (id : Int) (p a b : Nat) : pagesAt x id p (a + b) = pagesAt x id p a ++ pagesAt x id (p + a) b := by
 unfold pagesAt
 rw [<- List.filter_append]
 congr 1
 have := @List.range'_append p a b 1
 rw [Nat.one_mul] at this
 exact this.symm
theorem xvs (x : List Int) (id : Int) (p : Nat) (h : x.getD p 0 ≠ id) : pagesAt x id p 1 = [] := by
 have hb : (x.getD p 0 == id) = false := by simpa using h
 unfold pagesAt
 show List.filter _ [p] = []
 rw [List.filter_cons,hb];rfl
theorem yj4 (p L : Nat) : (List.range L).map (p + ·) = List.range' p L := by
 rw [List.range_eq_range',List.map_add_range'];simp
theorem xwi (x : List Int) (id : Int) (p : Nat) (t : Nat) (h : t < runLen x id p) : x.getD (p + t) 0 = id := by
 have hl := xkg x id p
 have hlt : p + t < x.length := by omega
 have := (xz0 x id p t x[p + t] (by omega) (List.getElem?_eq_getElem hlt)).1 h
 rw [List.getD_eq_getElem?_getD,List.getElem?_eq_getElem hlt]
 exact this
theorem yqz (x : List Int) (id : Int) (p : Nat) (h : p + runLen x id p < x.length) : x.getD (p + runLen x id p) 0 ≠ id := by
 rw [List.getD_eq_getElem?_getD,List.getElem?_eq_getElem h]
 intro e
 exact absurd ((xz0 x id p (runLen x id p) _ (Nat.le_refl _) (List.getElem?_eq_getElem h)).2 e) (Nat.lt_irrefl _)
def RunOk (x : List Int) (id : Int) (p : Nat) (r : Int × Int) : Prop := ∃ S L : Nat,r = ((S : Int),(L : Int)) /\ 1 <= L /\ p <= S /\ S + L <= x.length /\ ∀ t,t < L -> x.getD (S + t) 0 = id
theorem xj7 (x : List Int) (id : Int) : ∀ f p,∀ r ∈ runsAt x id f p,RunOk x id p r
 | 0,p,r,h => by cases h
 | f + 1,p,r,h => by
  unfold runsAt at h
  split at h
  ·next hp =>
   split at h
   ·next h0 =>
    rcases List.mem_cons.1 h with rfl | h
    ·exact ⟨p,runLen x id p,rfl,h0,Nat.le_refl _,by have := xkg x id p;omega,fun t ht => xwi x id p t ht⟩
    ·obtain ⟨S,L,e,h1,h2,h3,h4⟩ := xj7 x id f _ r h
     exact ⟨S,L,e,h1,by omega,h3,h4⟩
   ·obtain ⟨S,L,e,h1,h2,h3,h4⟩ := xj7 x id f _ r h
    exact ⟨S,L,e,h1,by omega,h3,h4⟩
  ·cases h
theorem xk4 (x : List Int) (id : Int) : ∀ f p,(runsAt x id f p).Pairwise fun a b => a.1 + a.2 < b.1
 | 0,p => List.Pairwise.nil
 | f + 1,p => by
  unfold runsAt
  split
  ·split
   ·refine List.Pairwise.cons (fun b hb => ?_) (xk4 x id f _)
    obtain ⟨S,L,rfl,_,h2,_⟩ := xj7 x id f _ b hb
    show (p : Int) + (runLen x id p : Int) < (S : Int)
    omega
   ·exact xk4 x id f _
  ·exact List.Pairwise.nil
theorem xj8 (x : List Int) (id : Int) : ∀ f p,x.length < f + p -> pgs (runsAt x id f p) = pagesAt x id p (x.length - p)
 | 0,p,h => by
  rw [show x.length - p = 0 by omega];rfl
 | f + 1,p,h => by
  unfold runsAt
  split
  ·next hp =>
   split
   ·next h0 =>
    show (List.range (Int.toNat (runLen x id p : Int))).map (Int.toNat (p : Int) + ·) ++ pgs (runsAt x id f (p + runLen x id p + 1)) = _
    rw [Int.toNat_natCast,Int.toNat_natCast,yj4,xj8 x id f _ (by omega)]
    have hl := xkg x id p
    by_cases he : p + runLen x id p < x.length
    ·rw [show x.length - p = runLen x id p + (1 + (x.length - (p + runLen x id p + 1))) by omega,xk3,xk3,xvs x id _ (yqz x id p he),List.nil_append]
     rw [xwh x id p _ (fun q h1 h2 => by
      have := xwi x id p (q - p) (by omega)
      rwa [show p + (q - p) = q by omega] at this)]
    ·rw [show x.length - (p + runLen x id p + 1) = 0 by omega,show x.length - p = runLen x id p by omega]
     rw [xwh x id p _ (fun q h1 h2 => by
      have := xwi x id p (q - p) (by omega)
      rwa [show p + (q - p) = q by omega] at this)]
     simp [pagesAt]
   ·next h0 =>
    rw [xj8 x id f _ (by omega),show x.length - p = 1 + (x.length - (p + 1)) by omega,xk3,xvs x id p,List.nil_append]
    intro e
    refine h0 ((xVb x id p x[p] (List.getElem?_eq_getElem hp)).2 ?_)
    rw [List.getD_eq_getElem?_getD,List.getElem?_eq_getElem hp] at e
    exact e
  ·rw [show x.length - p = 0 by omega];rfl
def whole (x : List Int) : Nat -> List Nat
 | 0 => []
 | k + 1 => whole x k ++ pgs (xRuns x k)
theorem xVc (x : List Int) (id : Int) : pgs (xRuns x id) = pagesAt x id 0 x.length := by
 exact xj8 x id (x.length + 1) 0 (by omega)
def fMay (r : Int × Int) : Bool := decide (0 <= r.1 /\ r.1 < 1024 /\ 1 <= r.2 /\ r.2 <= 1024 /\ r.1 + r.2 <= 1024)
def freePage (free : Bool) (out : List Bool) (p : Nat) : Option (List Bool) := if out.getD p false == free then none else some (out.set p free)
def freePages (free : Bool) (s : Nat) : Nat -> List Bool -> Option (List Bool)
 | 0,out => some out
 | k + 1,out => (freePages free s k out).bind fun o => freePage free o (s + k)
def freeRuns (free : Bool) (f : List Bool) (rs : List (Int × Int)) : Option (List Bool) :=
 rs.foldl (fun o r => o.bind (freePages free r.1.toNat r.2.toNat)) (some f)
def freeEnd (f : List Bool) : Option (List Bool) -> List Bool × Int
 | some o => (o,0)
 | none => (f,9)
def fPut (f : List Bool) (rs : List (Int × Int)) (free : Bool) : List Bool × Int := if rs.all fMay then freeEnd f (freeRuns free f rs) else (f,2)
def b2i (b : Bool) : Int := if b then 1 else 0
theorem xVd (b : Bool) : b2i b = 1 ↔ b = true := by cases b <;> simp [b2i]
def fList (f : List Bool) : List (Int × Int) := xRuns (f.map b2i) 1
def bestAt (l : List (Int × Int)) : Nat -> Int -> Option (Int × Int)
 | 0,_ => none
 | k + 1,want => (l.find? (fun r => r.2 == want)).or (bestAt l k (want + 1))
def fBest (f : List Bool) (n : Int) : Option (Int × Int) := if n < 1 then none else bestAt (fList f) (1025 - n).toNat n
theorem xze {free : Bool} {s : Nat} {out : List Bool} : ∀ {k : Nat} (m : Nat),k <= m -> freePages free s k out = none -> freePages free s m out = none
 | k,0,h,e => by
  obtain rfl : k = 0 := by omega
  exact e
 | k,m + 1,h,e => by
  by_cases c : k = m + 1
  ·rw [<- c];exact e
  ·unfold freePages
   rw [xze (k := k) m (by omega) e];rfl
theorem xZ5 (free : Bool) (f : List Bool) (rs : List (Int × Int)) (r : Int × Int) : freeRuns free f (rs ++ [r]) = (freeRuns free f rs).bind (freePages free r.1.toNat r.2.toNat) := by
 unfold freeRuns;rw [List.foldl_append];rfl
theorem xxu (free : Bool) : ∀ rs : List (Int × Int),rs.foldl (fun o r => o.bind (freePages free r.1.toNat r.2.toNat)) none = none
 | [] => rfl
 | _ :: rs => xxu free rs
theorem xZ6 (free : Bool) (f : List Bool) (rs : List (Int × Int)) (k : Nat) (h : freeRuns free f (rs.take k) = none) : freeRuns free f rs = none := by
 have e : rs = rs.take k ++ rs.drop k := (List.take_append_drop k rs).symm
 unfold freeRuns at h ⊢
 rw [e,List.foldl_append,h,xxu]
theorem xk5 (l : List (Int × Int)) (k : Nat) (want : Int) (h : ∀ r ∈ l,r.2 ≠ want) : bestAt l (k + 1) want = bestAt l k (want + 1) := by
 have e : l.find? (fun r => r.2 == want) = none := List.find?_eq_none.2 fun r hr => by simpa using h r hr
 show (l.find? (fun r => r.2 == want)).or _ = _
 rw [e];rfl
theorem yx0 (l : List (Int × Int)) (want : Int) (j : Nat) (r : Int × Int) (h : ∀ i,i < j -> ∀ y,l[i]? = some y -> y.2 ≠ want) (hj : l[j]? = some r) (hr : r.2 = want) : l.find? (fun r => r.2 == want) = some r := by
 have e : l = l.take j ++ r :: l.drop (j + 1) := by
  have hl : j < l.length := (List.getElem?_eq_some_iff.1 hj).1
  have h2 : l[j] = r := (List.getElem?_eq_some_iff.1 hj).2
  rw [<- h2,<- List.drop_eq_getElem_cons hl,List.take_append_drop]
 rw [e,List.find?_append,List.find?_eq_none.2 (fun y hy => ?_)]
 ·simp [hr]
 ·obtain ⟨i,hi,rfl⟩ := List.getElem_of_mem hy
  rw [List.length_take] at hi
  have := h i (by omega) l[i] (List.getElem?_eq_getElem (by omega))
  simpa using this
theorem xwj (l : List (Int × Int)) (k : Nat) (want : Int) (j : Nat) (r : Int × Int) (h : ∀ i,i < j -> ∀ y,l[i]? = some y -> y.2 ≠ want) (hj : l[j]? = some r) (hr : r.2 = want) : bestAt l (k + 1) want = some r := by
 show (l.find? (fun r => r.2 == want)).or _ = _
 rw [yx0 l want j r h hj hr];rfl
theorem xwk {free : Bool} {out o : List Bool} {p : Nat} (h : freePage free out p = some o) : o.length = out.length := by
 unfold freePage at h
 split at h
 ·cases h
 ·obtain rfl : out.set p free = o := by simpa using h
  rw [List.length_set]
theorem xx2 {free : Bool} {s : Nat} : ∀ {k : Nat} {out o : List Bool},freePages free s k out = some o -> o.length = out.length
 | 0,out,o,h => by
  obtain rfl : out = o := by simpa [freePages] using h
  rfl
 | k + 1,out,o,h => by
  unfold freePages at h
  cases e : freePages free s k out with
  | none => rw [e] at h;cases h
  | some o1 =>
   rw [e] at h
   rw [xwk h];exact xx2 e
theorem xz3 (free : Bool) : ∀ (rs : List (Int × Int)) (f o : List Bool),freeRuns free f rs = some o -> o.length = f.length
 | [],f,o,h => by
  obtain rfl : f = o := by simpa [freeRuns] using h
  rfl
 | r :: rs,f,o,h => by
  have e : freeRuns free f (r :: rs) = rs.foldl (fun o r => o.bind (freePages free r.1.toNat r.2.toNat)) (freePages free r.1.toNat r.2.toNat f) := rfl
  rw [e] at h
  cases e2 : freePages free r.1.toNat r.2.toNat f with
  | none => rw [e2,xxu] at h;cases h
  | some o1 =>
   rw [e2] at h
   rw [xz3 free rs o1 o h,xx2 e2]
theorem xz4 (f : List Bool) (rs : List (Int × Int)) (free : Bool) : (fPut f rs free).1.length = f.length := by
 unfold fPut
 split
 ·cases e : freeRuns free f rs with
  | none => rfl
  | some o => exact xz3 free rs f o e
 ·rfl
def Norm : Int -> List (Int × Int) -> Prop
 | _,[] => True
 | lo,r :: l => lo <= r.1 /\ 1 <= r.2 /\ r.1 + r.2 <= 1024 /\ Norm (r.1 + r.2 + 1) l
def Cov (rs : List (Int × Int)) (p : Int) : Prop := ∃ r ∈ rs,r.1 <= p /\ p < r.1 + r.2
theorem xxg (p : Int) : ¬ Cov [] p := fun ⟨_,h,_⟩ => by cases h
theorem xql (r : Int × Int) (l : List (Int × Int)) (p : Int) : Cov (r :: l) p ↔ (r.1 <= p /\ p < r.1 + r.2) \/ Cov l p := by
 unfold Cov
 constructor
 ·rintro ⟨x,h,h2⟩
  rcases List.mem_cons.1 h with rfl | h
  ·exact Or.inl h2
  ·exact Or.inr ⟨x,h,h2⟩
 ·rintro (h | ⟨x,h,h2⟩)
  ·exact ⟨r,List.mem_cons_self,h⟩
  ·exact ⟨x,List.mem_cons_of_mem _ h,h2⟩
theorem xqq (a b : List (Int × Int)) (p : Int) : Cov (a ++ b) p ↔ Cov a p \/ Cov b p := by
 unfold Cov
 constructor
 ·rintro ⟨x,h,h2⟩
  rcases List.mem_append.1 h with h | h
  ·exact Or.inl ⟨x,h,h2⟩
  ·exact Or.inr ⟨x,h,h2⟩
 ·rintro (⟨x,h,h2⟩ | ⟨x,h,h2⟩)
  ·exact ⟨x,List.mem_append_left _ h,h2⟩
  ·exact ⟨x,List.mem_append_right _ h,h2⟩
theorem xx3 : ∀ {lo : Int} {l : List (Int × Int)},Norm lo l -> ∀ r ∈ l,lo <= r.1 /\ 1 <= r.2 /\ r.1 + r.2 <= 1024
 | _,[],_,r,h => by cases h
 | lo,x :: l,hn,r,h => by
  obtain ⟨h1,h2,h3,h4⟩ := hn
  rcases List.mem_cons.1 h with rfl | h
  ·exact ⟨h1,h2,h3⟩
  ·have := xx3 h4 r h
   exact ⟨by omega,this.2⟩
theorem xj9 {lo p : Int} {l : List (Int × Int)} (hn : Norm lo l) (h : Cov l p) : lo <= p := by
 obtain ⟨r,hr,h1,_⟩ := h
 have := xx3 hn r hr;omega
theorem xJk : ∀ {lo : Int} {xs ys : List (Int × Int)},Norm lo xs -> Norm lo ys -> (∀ p,Cov xs p ↔ Cov ys p) -> xs = ys
 | _,[],[],_,_,_ => rfl
 | _,[],y :: ys,_,h2,h => absurd ((h y.1).2 ⟨y,List.mem_cons_self,by have := h2.2.1;omega⟩) (xxg _)
 | _,x :: xs,[],h1,_,h => absurd ((h x.1).1 ⟨x,List.mem_cons_self,by have := h1.2.1;omega⟩) (xxg _)
 | lo,x :: xs,y :: ys,h1,h2,h => by
  obtain ⟨a1,a2,a3,a4⟩ := h1
  obtain ⟨b1,b2,b3,b4⟩ := h2
  have kx : ∀ p,Cov (x :: xs) p ↔ (x.1 <= p /\ p < x.1 + x.2) \/ Cov xs p := fun p => xql x xs p
  have ky : ∀ p,Cov (y :: ys) p ↔ (y.1 <= p /\ p < y.1 + y.2) \/ Cov ys p := fun p => xql y ys p
  have e1 : x.1 = y.1 := by
   have c1 : y.1 <= x.1 := by
    rcases (ky _).1 ((h x.1).1 ((kx _).2 (Or.inl (by omega)))) with c | c
    ·omega
    ·have := xj9 b4 c;omega
   have c2 : x.1 <= y.1 := by
    rcases (kx _).1 ((h y.1).2 ((ky _).2 (Or.inl (by omega)))) with c | c
    ·omega
    ·have := xj9 a4 c;omega
   omega
  have e2 : x.2 = y.2 := by
   have c1 : ¬ x.2 < y.2 := fun c => by
    rcases (kx _).1 ((h (x.1 + x.2)).2 ((ky _).2 (Or.inl (by omega)))) with c | c
    ·omega
    ·have := xj9 a4 c;omega
   have c2 : ¬ y.2 < x.2 := fun c => by
    rcases (ky _).1 ((h (y.1 + y.2)).1 ((kx _).2 (Or.inl (by omega)))) with c | c
    ·omega
    ·have := xj9 b4 c;omega
   omega
  obtain rfl : x = y := Prod.ext e1 e2
  rw [xJk a4 b4 (fun p => ?_)]
  constructor
  ·intro c
   rcases (ky _).1 ((h p).1 ((kx _).2 (Or.inr c))) with d | d
   ·have := xj9 a4 c;omega
   ·exact d
  ·intro c
   rcases (kx _).1 ((h p).2 ((ky _).2 (Or.inr c))) with d | d
   ·have := xj9 b4 c;omega
   ·exact d
theorem xwl : ∀ {lo : Int} {l : List (Int × Int)},(∀ r ∈ l,lo <= r.1 /\ 1 <= r.2 /\ r.1 + r.2 <= 1024) -> (l.Pairwise fun a b => a.1 + a.2 < b.1) -> Norm lo l
 | _,[],_,_ => trivial
 | lo,x :: l,h,hp => by
  obtain ⟨p1,p2⟩ := List.pairwise_cons.1 hp
  have hx := h x List.mem_cons_self
  refine ⟨hx.1,hx.2.1,hx.2.2,xwl (fun r hr => ?_) p2⟩
  have := p1 r hr
  have := h r (List.mem_cons_of_mem _ hr)
  omega
theorem xwm : ∀ {lo : Int} {l : List (Int × Int)},Norm lo l -> l.Pairwise fun a b => a.1 + a.2 < b.1
 | _,[],_ => List.Pairwise.nil
 | _,x :: l,h => List.Pairwise.cons (fun b hb => by have := xx3 h.2.2.2 b hb;omega) (xwm h.2.2.2)
theorem pgs_cons (r : Int × Int) (l : List (Int × Int)) : pgs (r :: l) = (List.range r.2.toNat).map (r.1.toNat + ·) ++ pgs l := rfl
theorem xv4 : ∀ {l : List (Int × Int)},(∀ r ∈ l,0 <= r.1 /\ 1 <= r.2) -> ∀ p : Nat,p ∈ pgs l ↔ Cov l (p : Int)
 | [],_,p => ⟨fun h => (by cases h),fun h => absurd h (xxg _)⟩
 | r :: l,h,p => by
  have hr := h r List.mem_cons_self
  rw [pgs_cons,List.mem_append,xv4 (fun x hx => h x (List.mem_cons_of_mem _ hx)) p,xql]
  refine or_congr ?_ Iff.rfl
  rw [List.mem_map]
  constructor
  ·rintro ⟨i,hi,rfl⟩
   have := List.mem_range.1 hi
   omega
  ·intro c
   exact ⟨p - r.1.toNat,List.mem_range.2 (by omega),by omega⟩
theorem xJl (f : List Bool) (q : Nat) : (f.map b2i).getD q 0 = b2i (f.getD q false) := by
 rw [List.getD_eq_getElem?_getD,List.getD_eq_getElem?_getD,List.getElem?_map]
 cases f[q]? <;> rfl
theorem xw4 (f : List Bool) : ∀ r ∈ fList f,∃ S L : Nat,r = ((S : Int),(L : Int)) /\ 1 <= L /\ S + L <= f.length := by
 intro r hr
 obtain ⟨S,L,e,h1,_,h3,_⟩ := xj7 (f.map b2i) 1 _ 0 r hr
 exact ⟨S,L,e,h1,by simpa using h3⟩
theorem xqt (f : List Bool) (h : f.length <= 1024) : Norm 0 (fList f) := by
 refine xwl (fun r hr => ?_) (xk4 (f.map b2i) 1 _ 0)
 obtain ⟨S,L,rfl,h1,h2⟩ := xw4 f r hr
 show (0 : Int) <= (S : Int) /\ (1 : Int) <= (L : Int) /\ (S : Int) + (L : Int) <= 1024
 omega
theorem xxe (f : List Bool) (p : Nat) : Cov (fList f) (p : Int) ↔ f.getD p false = true := by
 rw [<- xv4 (fun r hr => by
  obtain ⟨S,L,rfl,h1,h2⟩ := xw4 f r hr
  show (0 : Int) <= (S : Int) /\ (1 : Int) <= (L : Int)
  omega) p]
 have e : pgs (fList f) = pagesAt (f.map b2i) 1 0 f.length := by
  have := xVc (f.map b2i) 1
  rw [List.length_map] at this;exact this
 rw [e]
 unfold pagesAt
 rw [List.mem_filter,xJl]
 constructor
 ·rintro ⟨_,h⟩
  exact (xVd _).1 (by simpa using h)
 ·intro h
  refine ⟨List.mem_range'_1.2 ⟨by omega,?_⟩,by rw [h];rfl⟩
  refine Nat.not_le.1 fun c => ?_
  rw [List.getD_eq_getElem?_getD,List.getElem?_eq_none (by omega)] at h
  cases h
theorem yj5 (f : List Bool) (p : Int) (h : p < 0) : ¬ Cov (fList f) p := by
 rintro ⟨r,hr,h1,_⟩
 obtain ⟨S,L,rfl,_⟩ := xw4 f r hr
 simp only at h1;omega
theorem xw5 (f : List Bool) (hf : f.length <= 1024) (l : List (Int × Int)) (hn : Norm 0 l) (h : ∀ p : Nat,Cov l (p : Int) ↔ f.getD p false = true) : fList f = l :=
 xJk (xqt f hf) hn fun p => by
  by_cases c : p < 0
  ·exact ⟨fun d => absurd d (yj5 f p c),fun d => by have := xj9 hn d;omega⟩
  ·obtain ⟨q,rfl⟩ : ∃ q : Nat,p = q := ⟨p.toNat,by omega⟩
   rw [xxe,h]
theorem xJm (f : List Bool) : (fList f).length <= f.length := by
 have h := xxc (f.map b2i) 1 ((f.map b2i).length + 1) 0
 have e : fList f = runsAt (f.map b2i) 1 ((f.map b2i).length + 1) 0 := rfl
 rw [e]
 rw [List.length_map] at h ⊢
 omega
def Disj (l : List (Int × Int)) : Prop := l.Pairwise fun a b => a.1 + a.2 <= b.1 \/ b.1 + b.2 <= a.1
def CanPut (free : Bool) (f : List Bool) (l : List (Int × Int)) : Prop := Disj l /\ ∀ p : Nat,Cov l (p : Int) -> f.getD p false ≠ free
theorem yj6 (f : List Bool) (p q : Nat) (b : Bool) (hp : p < f.length) : (f.set p b).getD q false = if p = q then b else f.getD q false := by
 rw [List.getD_eq_getElem?_getD,List.getElem?_set,List.getD_eq_getElem?_getD]
 split
 ·next h => simp
 ·rfl
theorem xzv (free : Bool) (s : Nat) (out : List Bool) : ∀ k,s + k <= out.length -> (∀ i,i < k -> out.getD (s + i) false ≠ free) ->
  ∃ o,freePages free s k out = some o /\ ∀ p,o.getD p false = if s <= p /\ p < s + k then free else out.getD p false
 | 0,_,_ => ⟨out,rfl,fun p => by rw [if_neg (by omega)]⟩
 | k + 1,hl,h => by
  obtain ⟨o,e,ho⟩ := xzv free s out k (by omega) (fun i hi => h i (by omega))
  have hlen := xx2 e
  have hg : o.getD (s + k) false ≠ free := by rw [ho,if_neg (by omega)];exact h k (by omega)
  refine ⟨o.set (s + k) free,?_,fun p => ?_⟩
  ·show (freePages free s k out).bind _ = _
   rw [e]
   show freePage free o (s + k) = _
   unfold freePage
   rw [if_neg (by simpa using hg)]
  ·rw [yj6 _ _ _ _ (by omega),ho]
   by_cases c : s + k = p
   ·rw [if_pos c,if_pos (by omega)]
   ·rw [if_neg c]
    by_cases d : s <= p /\ p < s + k
    ·rw [if_pos d,if_pos (by omega)]
    ·rw [if_neg d,if_neg (by omega)]
theorem xJn (free : Bool) (s : Nat) (out : List Bool) (k i : Nat) (hl : s + k <= out.length) (hi : i < k) (h : out.getD (s + i) false = free) : freePages free s k out = none := by
 induction i using Nat.strongRecOn with
 | ind i ih =>
  by_cases c : ∃ j,j < i /\ out.getD (s + j) false = free
  ·obtain ⟨j,h1,h2⟩ := c
   exact ih j h1 (by omega) h2
  ·obtain ⟨o,e,ho⟩ := xzv free s out i (by omega) (fun j hj e => c ⟨j,hj,e⟩)
   refine xze (k := i + 1) k (by omega) ?_
   show (freePages free s i out).bind _ = _
   rw [e]
   show freePage free o (s + i) = _
   unfold freePage
   rw [if_pos (by rw [ho,if_neg (by omega),h];simp)]
theorem xkj (free : Bool) (f : List Bool) (r : Int × Int) (l : List (Int × Int)) : freeRuns free f (r :: l) = (freePages free r.1.toNat r.2.toNat f).bind fun g => freeRuns free g l := by
 show l.foldl _ (freePages free r.1.toNat r.2.toNat f) = _
 cases e : freePages free r.1.toNat r.2.toNat f with
 | none => exact xxu free l
 | some g => rfl
theorem xqd (r : Int × Int) : fMay r = true ↔ 0 <= r.1 /\ 1 <= r.2 /\ r.1 + r.2 <= 1024 := by
 unfold fMay
 rw [decide_eq_true_iff]
 omega
theorem xja (free : Bool) : ∀ (l : List (Int × Int)) (f : List Bool),f.length = 1024 -> (∀ r ∈ l,fMay r = true) ->
  (CanPut free f l -> ∃ g,freeRuns free f l = some g /\ ∀ p : Nat,(Cov l (p : Int) -> g.getD p false = free) /\ (¬ Cov l (p : Int) -> g.getD p false = f.getD p false)) /\ (¬ CanPut free f l -> freeRuns free f l = none)
 | [],f,_,_ => ⟨fun _ => ⟨f,rfl,fun p => ⟨fun h => absurd h (xxg _),fun _ => rfl⟩⟩,fun h => absurd ⟨List.Pairwise.nil,fun p h => absurd h (xxg _)⟩ h⟩
 | r :: l,f,hf,hm => by
  obtain ⟨m1,m2,m3⟩ := (xqd r).1 (hm r List.mem_cons_self)
  have hml : ∀ x ∈ l,fMay x = true := fun x hx => hm x (List.mem_cons_of_mem _ hx)
  by_cases c : ∃ i,i < r.2.toNat /\ f.getD (r.1.toNat + i) false = free
  ·obtain ⟨i,hi,h⟩ := c
   have e : freeRuns free f (r :: l) = none := by
    rw [xkj,xJn free _ f _ i (by omega) hi h];rfl
   refine ⟨fun hc => absurd h (hc.2 _ ((xql r l _).2 (Or.inl (by omega)))),fun _ => e⟩
  ·obtain ⟨g,e,hg⟩ := xzv free r.1.toNat f r.2.toNat (by omega) (fun i hi h => c ⟨i,hi,h⟩)
   have hgl := xx2 e
   obtain ⟨y1,y2⟩ := xja free l g (by omega) hml
   have e2 : freeRuns free f (r :: l) = freeRuns free g l := by rw [xkj,e];rfl
   have key : CanPut free f (r :: l) ↔ CanPut free g l := by
    constructor
    ·rintro ⟨h1,h2⟩
     obtain ⟨p1,p2⟩ := List.pairwise_cons.1 h1
     refine ⟨p2,fun p hp => ?_⟩
     rw [hg,if_neg]
     ·exact h2 p ((xql r l _).2 (Or.inr hp))
     ·obtain ⟨x,hx,q1,q2⟩ := hp
      have := p1 x hx
      omega
    ·rintro ⟨h1,h2⟩
     refine ⟨List.pairwise_cons.2 ⟨fun x hx => ?_,h1⟩,fun p hp => ?_⟩
     ·obtain ⟨x1,x2,x3⟩ := (xqd x).1 (hml x hx)
      refine Classical.byContradiction fun hno => ?_
      have hp : ∃ p : Nat,x.1 <= (p : Int) /\ (p : Int) < x.1 + x.2 /\ r.1 <= (p : Int) /\ (p : Int) < r.1 + r.2 := by
       by_cases d : r.1 <= x.1
       ·exact ⟨x.1.toNat,by omega⟩
       ·exact ⟨r.1.toNat,by omega⟩
      obtain ⟨p,k1,k2,k3,k4⟩ := hp
      refine h2 p ⟨x,hx,k1,k2⟩ ?_
      rw [hg,if_pos (by omega)]
     ·rcases (xql r l _).1 hp with h | h
      ·intro e3
       exact c ⟨p - r.1.toNat,by omega,by rw [show r.1.toNat + (p - r.1.toNat) = p by omega];exact e3⟩
      ·intro e3
       have := h2 p h
       rw [hg] at this
       by_cases d : r.1.toNat <= p /\ p < r.1.toNat + r.2.toNat
       ·rw [if_pos d] at this;exact this rfl
       ·rw [if_neg d] at this;exact this e3
   rw [e2]
   refine ⟨fun hc => ?_,fun hc => y2 (fun d => hc (key.2 d))⟩
   obtain ⟨o,eo,ho⟩ := y1 (key.1 hc)
   refine ⟨o,eo,fun p => ⟨fun hp => ?_,fun hp => ?_⟩⟩
   ·by_cases d : Cov l (p : Int)
    ·exact (ho p).1 d
    ·rw [(ho p).2 d,hg,if_pos]
     rcases (xql r l _).1 hp with h | h
     ·omega
     ·exact absurd h d
   ·have d : ¬ Cov l (p : Int) := fun d => hp ((xql r l _).2 (Or.inr d))
    rw [(ho p).2 d,hg,if_neg]
    intro h
    exact hp ((xql r l _).2 (Or.inl (by omega)))
theorem xjo {free : Bool} {f : List Bool} {l : List (Int × Int)} (hf : f.length = 1024) (hm : ∀ r ∈ l,fMay r = true) (h : CanPut free f l) :
  ∃ g,fPut f l free = (g,0) /\ g.length = 1024 /\ ∀ p : Nat,(Cov l (p : Int) -> g.getD p false = free) /\ (¬ Cov l (p : Int) -> g.getD p false = f.getD p false) := by
 obtain ⟨g,e,hg⟩ := (xja free l f hf hm).1 h
 have hl := xz3 free l f g e
 refine ⟨g,?_,by omega,hg⟩
 unfold fPut
 rw [if_pos (List.all_eq_true.2 hm),e];rfl
theorem yj7 {free : Bool} {f : List Bool} {l : List (Int × Int)} (hf : f.length = 1024) (hm : ∀ r ∈ l,fMay r = true) (h : ¬ CanPut free f l) : fPut f l free = (f,9) := by
 unfold fPut
 rw [if_pos (List.all_eq_true.2 hm),(xja free l f hf hm).2 h];rfl
theorem xWy {free : Bool} {f : List Bool} {l : List (Int × Int)} (h : l.all fMay = false) : fPut f l free = (f,2) := by
 unfold fPut
 rw [if_neg (by rw [h];decide)]
def shareB : List (Int × Int) -> Bool
 | a :: b :: l => decide (b.1 < a.1 + a.2) || shareB (b :: l)
 | _ => false
theorem xJo : ∀ (l : List (Int × Int)) (i : Nat) (a b : Int × Int),l[i]? = some a -> l[i + 1]? = some b -> b.1 < a.1 + a.2 -> shareB l = true
 | [],i,a,b,h,_,_ => by simp at h
 | [x],i,a,b,_,h,_ => by simp at h
 | x :: y :: l,0,a,b,h1,h2,h => by
  obtain rfl : x = a := by simpa using h1
  obtain rfl : y = b := by simpa using h2
  show (decide _ || _) = true
  rw [decide_eq_true h];rfl
 | x :: y :: l,i + 1,a,b,h1,h2,h => by
  have := xJo (y :: l) i a b (by simpa using h1) (by simpa using h2) h
  show (_ || shareB (y :: l)) = true
  rw [this,Bool.or_true]
theorem xwn : ∀ (l : List (Int × Int)),(∀ i a b,l[i]? = some a -> l[i + 1]? = some b -> ¬ b.1 < a.1 + a.2) -> shareB l = false
 | [],_ => rfl
 | [_],_ => rfl
 | x :: y :: l,h => by
  show (decide _ || shareB (y :: l)) = false
  rw [decide_eq_false (h 0 x y rfl rfl),xwn (y :: l) (fun i a b h1 h2 => h (i + 1) a b (by simpa using h1) (by simpa using h2))];rfl
theorem xZ7 : ∀ {l : List (Int × Int)},(∀ r ∈ l,1 <= r.2) -> shareB l = false -> l.Pairwise fun a b => a.1 + a.2 <= b.1
 | [],_,_ => List.Pairwise.nil
 | [x],_,_ => List.pairwise_singleton _ _
 | x :: y :: l,hl,h => by
  have h' : (decide (y.1 < x.1 + x.2) || shareB (y :: l)) = false := h
  obtain ⟨h1,h2⟩ := (Bool.or_eq_false_iff).1 h'
  have h1' : ¬ y.1 < x.1 + x.2 := of_decide_eq_false h1
  have ih := xZ7 (l := y :: l) (fun r hr => hl r (List.mem_cons_of_mem _ hr)) h2
  refine List.Pairwise.cons (fun b hb => ?_) ih
  rcases List.mem_cons.1 hb with rfl | hb
  ·omega
  ·have := (List.pairwise_cons.1 ih).1 b hb
   have := hl y (by simp)
   omega
theorem xWz : ∀ {l : List (Int × Int)},(∀ r ∈ l,1 <= r.2) -> (l.Pairwise fun a b => a.1 <= b.1) -> shareB l = true -> ¬ Disj l
 | [],_,_,h => by cases h
 | [_],_,_,h => by cases h
 | x :: y :: l,hl,hr,h => fun hd => by
  obtain ⟨d1,d2⟩ := List.pairwise_cons.1 hd
  obtain ⟨r1,r2⟩ := List.pairwise_cons.1 hr
  have h' : (decide (y.1 < x.1 + x.2) || shareB (y :: l)) = true := h
  rcases (Bool.or_eq_true_iff).1 h' with c | c
  ·have c := of_decide_eq_true c
   have := d1 y (by simp)
   have := r1 y (by simp)
   have := hl x (by simp)
   have := hl y (by simp)
   omega
  ·exact xWz (fun r hr => hl r (List.mem_cons_of_mem _ hr)) r2 c d2
theorem xZ8 {l : List (Int × Int)} (h : l.Pairwise fun a b => a.1 + a.2 <= b.1) : Disj l := h.imp fun h => Or.inl h
theorem xwo {l m : List (Int × Int)} (h : l.Perm m) : Disj l ↔ Disj m := h.pairwise_iff fun h => h.symm
theorem xQw (f : List Bool) (hf : f.length <= 1024) (l : List (Int × Int)) (hm : ∀ r ∈ l,fMay r = true) : CanPut true f l ↔ Disj (fList f ++ l) := by
 have hn := xqt f hf
 unfold CanPut Disj
 rw [List.pairwise_append]
 constructor
 ·rintro ⟨h1,h2⟩
  refine ⟨(xwm hn).imp fun h => Or.inl (by omega),h1,fun a ha b hb => ?_⟩
  have hA := xx3 hn a ha
  obtain ⟨b1,b2,b3⟩ := (xqd b).1 (hm b hb)
  refine Classical.byContradiction fun hno => ?_
  have hp : ∃ p : Nat,a.1 <= (p : Int) /\ (p : Int) < a.1 + a.2 /\ b.1 <= (p : Int) /\ (p : Int) < b.1 + b.2 := by
   by_cases d : b.1 <= a.1
   ·exact ⟨a.1.toNat,by omega⟩
   ·exact ⟨b.1.toNat,by omega⟩
  obtain ⟨p,k1,k2,k3,k4⟩ := hp
  exact h2 p ⟨b,hb,k3,k4⟩ ((xxe f p).1 ⟨a,ha,k1,k2⟩)
 ·rintro ⟨_,h1,h2⟩
  refine ⟨h1,fun p ⟨b,hb,k1,k2⟩ e => ?_⟩
  obtain ⟨a,ha,k3,k4⟩ := (xxe f p).2 e
  have := h2 a ha b hb
  omega
def joinOn (acc : List (Int × Int)) (x : Int × Int) : List (Int × Int) :=
 match acc.getLast? with
 | some y => if y.1 + y.2 = x.1 then acc.dropLast ++ [(y.1,y.2 + x.2)] else acc ++ [x]
 | none => acc ++ [x]
def joinedL (l : List (Int × Int)) : List (Int × Int) := l.foldl joinOn []
structure JoinInv (acc done : List (Int × Int)) : Prop where
 may : ∀ r ∈ acc,0 <= r.1 /\ 1 <= r.2 /\ r.1 + r.2 <= 1024
 rise : acc.Pairwise fun a b => a.1 + a.2 < b.1
 cov : ∀ p,Cov acc p ↔ Cov done p
 ends : ∀ b : Int,(∀ a ∈ done,a.1 + a.2 <= b) -> ∀ r ∈ acc,r.1 + r.2 <= b
theorem xVe {acc done : List (Int × Int)} {x : Int × Int} (h : JoinInv acc done) (hx : 0 <= x.1 /\ 1 <= x.2 /\ x.1 + x.2 <= 1024) (hd : ∀ a ∈ done,a.1 + a.2 <= x.1) : JoinInv (joinOn acc x) (done ++ [x]) := by
 have he := h.ends x.1 hd
 have plain : (∀ r ∈ acc,r.1 + r.2 < x.1) -> JoinInv (acc ++ [x]) (done ++ [x]) := fun hlt => by
  refine ⟨fun r hr => ?_,?_,fun p => ?_,fun b hb r hr => ?_⟩
  ·rcases List.mem_append.1 hr with hr | hr
   ·exact h.may r hr
   ·obtain rfl := List.mem_singleton.1 hr;exact hx
  ·rw [List.pairwise_append]
   exact ⟨h.rise,List.pairwise_singleton _ _,fun a ha b hb => by obtain rfl := List.mem_singleton.1 hb;exact hlt a ha⟩
  ·rw [xqq,xqq,h.cov]
  ·rcases List.mem_append.1 hr with hr | hr
   ·exact h.ends b (fun a ha => hb a (List.mem_append_left _ ha)) r hr
   ·obtain rfl := List.mem_singleton.1 hr
    exact hb r (by simp)
 unfold joinOn
 cases e : acc.getLast? with
 | none =>
  obtain rfl : acc = [] := List.getLast?_eq_none_iff.1 e
  exact plain (fun r hr => by cases hr)
 | some y =>
  obtain ⟨init,rfl⟩ := List.getLast?_eq_some_iff.1 e
  obtain ⟨p1,_,p3⟩ := List.pairwise_append.1 h.rise
  have hy := h.may y (by simp)
  by_cases c : y.1 + y.2 = x.1
  ·simp only [if_pos c,List.dropLast_concat]
   refine ⟨fun r hr => ?_,?_,fun p => ?_,fun b hb r hr => ?_⟩
   ·rcases List.mem_append.1 hr with hr | hr
    ·exact h.may r (List.mem_append_left _ hr)
    ·obtain rfl := List.mem_singleton.1 hr
     show 0 <= y.1 /\ 1 <= y.2 + x.2 /\ y.1 + (y.2 + x.2) <= 1024
     omega
   ·rw [List.pairwise_append]
    refine ⟨p1,List.pairwise_singleton _ _,fun a ha b hb => ?_⟩
    obtain rfl := List.mem_singleton.1 hb
    exact p3 a ha y (by simp)
   ·rw [xqq,xqq,<- h.cov,xqq,xql,xql,xql,or_assoc]
    refine or_congr Iff.rfl ?_
    simp only [iff_false_intro (xxg p),or_false]
    omega
   ·rcases List.mem_append.1 hr with hr | hr
    ·exact h.ends b (fun a ha => hb a (List.mem_append_left _ ha)) r (List.mem_append_left _ hr)
    ·obtain rfl := List.mem_singleton.1 hr
     have := hb x (by simp)
     show y.1 + (y.2 + x.2) <= b
     omega
  ·simp only [if_neg c]
   refine plain (fun r hr => ?_)
   rcases List.mem_append.1 hr with hr | hr
   ·have := p3 r hr y (by simp)
    have := he y (by simp)
    omega
   ·obtain rfl := List.mem_singleton.1 hr
    have := he r (by simp)
    omega
theorem xJp : ∀ {l acc done : List (Int × Int)},JoinInv acc done -> (∀ r ∈ l,0 <= r.1 /\ 1 <= r.2 /\ r.1 + r.2 <= 1024) -> ((done ++ l).Pairwise fun a b => a.1 + a.2 <= b.1) -> JoinInv (l.foldl joinOn acc) (done ++ l)
 | [],acc,done,h,_,_ => by rw [List.append_nil];exact h
 | x :: l,acc,done,h,hm,hp => by
  have hs := xVe (x := x) h (hm x List.mem_cons_self) (fun a ha => (List.pairwise_append.1 hp).2.2 a ha x List.mem_cons_self)
  have := xJp (l := l) hs (fun r hr => hm r (List.mem_cons_of_mem _ hr)) (by rw [List.append_assoc];exact hp)
  rw [List.append_assoc] at this
  exact this
theorem xQx {l : List (Int × Int)} (hm : ∀ r ∈ l,0 <= r.1 /\ 1 <= r.2 /\ r.1 + r.2 <= 1024) (hp : l.Pairwise fun a b => a.1 + a.2 <= b.1) : JoinInv (joinedL l) l := by
 have := xJp (l := l) (acc := []) (done := []) ⟨fun r hr => (by cases hr),List.Pairwise.nil,fun p => Iff.rfl,fun b _ r hr => by cases hr⟩ hm hp
 exact this
theorem add_all {f : List Bool} {l d : List (Int × Int)} (hf : f.length = 1024) (hm : ∀ r ∈ l,fMay r = true) (hd : d.Perm (fList f ++ l)) (hr : d.Pairwise fun a b => a.1 <= b.1) :
  (shareB d = true -> fPut f l true = (f,9)) /\ (shareB d = false -> ∃ g,fPut f l true = (g,0) /\ fList g = joinedL d) := by
 have hn := xqt f (by omega)
 have hall : ∀ r ∈ d,0 <= r.1 /\ 1 <= r.2 /\ r.1 + r.2 <= 1024 := fun r h => by
  rcases List.mem_append.1 (hd.mem_iff.1 h) with h | h
  ·exact xx3 hn r h
  ·exact (xqd r).1 (hm r h)
 have hlen : ∀ r ∈ d,1 <= r.2 := fun r h => (hall r h).2.1
 constructor
 ·intro h
  refine yj7 hf hm fun hc => ?_
  exact xWz hlen hr h ((xwo hd).2 ((xQw f (by omega) l hm).1 hc))
 ·intro h
  have ha := xZ7 hlen h
  have hc := (xQw f (by omega) l hm).2 ((xwo hd).1 (xZ8 ha))
  obtain ⟨g,e,hl,hg⟩ := xjo hf hm hc
  have hj := xQx hall ha
  refine ⟨g,e,xw5 g (by omega) _ (xwl hj.may hj.rise) fun p => ?_⟩
  rw [hj.cov]
  have hcov : Cov d (p : Int) ↔ Cov (fList f ++ l) (p : Int) := by
   unfold Cov
   constructor
   ·rintro ⟨r,h1,h2⟩;exact ⟨r,hd.mem_iff.1 h1,h2⟩
   ·rintro ⟨r,h1,h2⟩;exact ⟨r,hd.mem_iff.2 h1,h2⟩
  rw [hcov,xqq,xxe]
  by_cases c : Cov l (p : Int)
  ·exact ⟨fun _ => (hg p).1 c,fun _ => Or.inr c⟩
  ·rw [(hg p).2 c]
   exact ⟨fun h => h.resolve_right c,Or.inl⟩
def bestStep (n : Int) (o : Option (Int × Int)) (x : Int × Int) : Option (Int × Int) :=
 match o with
 | none => if n <= x.2 then some x else none
 | some b => if n <= x.2 /\ x.2 < b.2 then some x else some b
def bestOf (n : Int) (l : List (Int × Int)) : Option (Int × Int) := l.foldl (bestStep n) none
def IsBest (n : Int) (l : List (Int × Int)) : Option (Int × Int) -> Prop
 | none => ∀ r : Int × Int,r ∈ l -> r.2 < n
 | some r => n <= r.2 /\ (∃ j : Nat,l[j]? = some r /\ ∀ i : Nat,i < j -> ∀ y : Int × Int,l[i]? = some y -> n <= y.2 -> r.2 < y.2) /\ ∀ y : Int × Int,y ∈ l -> n <= y.2 -> r.2 <= y.2
theorem xwp (n : Int) (l : List (Int × Int)) (x : Int × Int) : bestOf n (l ++ [x]) = bestStep n (bestOf n l) x := by
 unfold bestOf;rw [List.foldl_append];rfl
theorem xVf {n : Int} {l : List (Int × Int)} {o : Option (Int × Int)} (x : Int × Int) (h : IsBest n l o) : IsBest n (l ++ [x]) (bestStep n o x) := by
 have at_new : (l ++ [x])[l.length]? = some x := by simp
 have at_old : ∀ i y,i < l.length -> ((l ++ [x])[i]? = some y ↔ l[i]? = some y) := fun i y hi => by rw [List.getElem?_append_left hi]
 unfold bestStep
 cases o with
 | none =>
  have h' : ∀ r ∈ l,r.2 < n := h
  by_cases c : n <= x.2
  ·simp only [if_pos c]
   refine ⟨c,⟨l.length,at_new,fun i hi y hy hn => ?_⟩,fun y hy hn => ?_⟩
   ·have := h' y (List.mem_of_getElem? ((at_old i y hi).1 hy));omega
   ·rcases List.mem_append.1 hy with hy | hy
    ·have := h' y hy;omega
    ·obtain rfl := List.mem_singleton.1 hy;omega
  ·simp only [if_neg c]
   intro r hr
   rcases List.mem_append.1 hr with hr | hr
   ·exact h' r hr
   ·obtain rfl := List.mem_singleton.1 hr;omega
 | some b =>
  obtain ⟨h1,⟨j,h2,h3⟩,h4⟩ := h
  have hj : j < l.length := (List.getElem?_eq_some_iff.1 h2).1
  by_cases c : n <= x.2 /\ x.2 < b.2
  ·simp only [if_pos c]
   refine ⟨c.1,⟨l.length,at_new,fun i hi y hy hn => ?_⟩,fun y hy hn => ?_⟩
   ·have := h4 y (List.mem_of_getElem? ((at_old i y hi).1 hy)) hn;omega
   ·rcases List.mem_append.1 hy with hy | hy
    ·have := h4 y hy hn;omega
    ·obtain rfl := List.mem_singleton.1 hy;omega
  ·simp only [if_neg c]
   refine ⟨h1,⟨j,(at_old j b hj).2 h2,fun i hi y hy hn => h3 i hi y ((at_old i y (by omega)).1 hy) hn⟩,fun y hy hn => ?_⟩
   rcases List.mem_append.1 hy with hy | hy
   ·exact h4 y hy hn
   ·obtain rfl := List.mem_singleton.1 hy;omega
theorem xJq (n : Int) (l : List (Int × Int)) : IsBest n l (bestOf n l) := by
 have key : ∀ k,IsBest n (l.take k) (bestOf n (l.take k)) := fun k => by
  induction k with
  | zero => rw [List.take_zero];intro r hr;cases hr
  | succ k ih =>
   rw [List.take_add_one]
   cases h : l[k]? with
   | none => simpa using ih
   | some x => rw [show (some x).toList = [x] from rfl,xwp];exact xVf x ih
 have := key l.length
 rwa [List.take_length] at this
theorem xwq {n : Int} {l : List (Int × Int)} : ∀ {o : Option (Int × Int)},IsBest n l o -> ∀ (k : Nat) (want : Int),n <= want -> (∀ r,o = some r -> want <= r.2 /\ r.2 < want + k) -> bestAt l k want = o
 | none,h,0,_,_,_ => rfl
 | none,h,k + 1,want,hn,ho => by
  rw [xk5 l k want (fun r hr e => by have := h r hr;omega)]
  exact xwq h k (want + 1) (by omega) (fun r hr => by cases hr)
 | some b,h,0,want,hn,ho => by have := ho b rfl;omega
 | some b,h,k + 1,want,hn,ho => by
  have hb := ho b rfl
  obtain ⟨h1,⟨j,h2,h3⟩,h4⟩ := h
  by_cases c : want = b.2
  ·exact xwj l k want j b (fun i hi y hy e => by have := h3 i hi y hy (by omega);omega) h2 c.symm
  ·rw [xk5 l k want (fun r hr e => by have := h4 r hr (by omega);omega)]
   exact xwq (o := some b) ⟨h1,⟨j,h2,h3⟩,h4⟩ k (want + 1) (by omega) (fun r hr => by obtain rfl := Option.some.inj hr;omega)
theorem xZ9 (f : List Bool) (hf : f.length <= 1024) (n : Int) : fBest f n = if n < 1 then none else bestOf n (fList f) := by
 unfold fBest
 by_cases c : n < 1
 ·rw [if_pos c,if_pos c]
 ·rw [if_neg c,if_neg c]
  have hb := xJq n (fList f)
  refine xwq hb _ n (by omega) (fun r hr => ?_)
  rw [hr] at hb
  obtain ⟨h1,⟨j,h2,_⟩,_⟩ := hb
  have := xx3 (xqt f hf) r (List.mem_of_getElem? h2)
  omega
theorem xwr {f : List Bool} (hf : f.length <= 1024) {n : Int} {r : Int × Int} (h : fBest f n = some r) : 1 <= n /\ n <= r.2 /\ r ∈ fList f := by
 rw [xZ9 f hf] at h
 by_cases c : n < 1
 ·rw [if_pos c] at h;cases h
 ·rw [if_neg c] at h
  have hb := xJq n (fList f)
  rw [h] at hb
  obtain ⟨h1,⟨j,h2,_⟩,_⟩ := hb
  exact ⟨by omega,h1,List.mem_of_getElem? h2⟩
def inRun (x r : Int × Int) : Bool := decide (r.1 <= x.1) && decide (x.1 + x.2 <= r.1 + r.2)
theorem xkk (x r : Int × Int) : inRun x r = true ↔ r.1 <= x.1 /\ x.1 + x.2 <= r.1 + r.2 := by unfold inRun;rw [Bool.and_eq_true,decide_eq_true_iff,decide_eq_true_iff]
theorem yq0 : ∀ {lo : Int} {l : List (Int × Int)},Norm lo l -> ∀ r ∈ l,¬ Cov l (r.1 + r.2)
 | _,[],_,r,h => by cases h
 | lo,y :: l,hn,r,hr => fun hc => by
  obtain ⟨h1,h2,h3,h4⟩ := hn
  rcases List.mem_cons.1 hr with rfl | hr
  ·rcases (xql _ _ _).1 hc with c | c
   ·omega
   ·have := xj9 h4 c;omega
  ·rcases (xql _ _ _).1 hc with c | c
   ·have := xx3 h4 r hr;omega
   ·exact yq0 h4 r hr c
theorem in_one {lo : Int} {l : List (Int × Int)} (hn : Norm lo l) (x : Int × Int) (hx : 1 <= x.2) (h : ∀ p,x.1 <= p -> p < x.1 + x.2 -> Cov l p) : ∃ r ∈ l,inRun x r = true := by
 obtain ⟨r,hr,h1,h2⟩ := h x.1 (by omega) (by omega)
 refine ⟨r,hr,(xkk x r).2 ⟨h1,?_⟩⟩
 refine Int.not_lt.1 fun c => ?_
 exact yq0 hn r hr (h _ (by omega) c)
theorem of_one {l : List (Int × Int)} {x r : Int × Int} (hr : r ∈ l) (h : inRun x r = true) (p : Int) (h1 : x.1 <= p) (h2 : p < x.1 + x.2) : Cov l p := by
 have := (xkk x r).1 h
 exact ⟨r,hr,by omega,by omega⟩
theorem xQy (f : List Bool) (hf : f.length <= 1024) (x : Int × Int) (hm : fMay x = true) : CanPut false f [x] ↔ ∃ r ∈ fList f,inRun x r = true := by
 obtain ⟨m1,m2,m3⟩ := (xqd x).1 hm
 constructor
 ·rintro ⟨_,h⟩
  refine in_one (xqt f hf) x m2 fun p h1 h2 => ?_
  obtain ⟨q,rfl⟩ : ∃ q : Nat,p = q := ⟨p.toNat,by omega⟩
  rw [xxe]
  have := h q ⟨x,by simp,h1,h2⟩
  revert this
  cases f.getD q false <;> simp
 ·rintro ⟨r,hr,h⟩
  refine ⟨List.pairwise_singleton _ _,fun p hp => ?_⟩
  obtain ⟨y,hy,h1,h2⟩ := hp
  obtain rfl := List.mem_singleton.1 hy
  have := (xxe f p).1 (of_one hr h p h1 h2)
  rw [this];decide
def leftL (r x : Int × Int) : List (Int × Int) := [(r.1,x.1 - r.1),(x.1 + x.2,r.1 + r.2 - (x.1 + x.2))].filter fun y => !(y.2 == 0)
theorem xzi (r x y : Int × Int) : y ∈ leftL r x ↔ (y = (r.1,x.1 - r.1) /\ x.1 - r.1 ≠ 0) \/ (y = (x.1 + x.2,r.1 + r.2 - (x.1 + x.2)) /\ r.1 + r.2 - (x.1 + x.2) ≠ 0) := by
 unfold leftL
 rw [List.mem_filter]
 constructor
 ·rintro ⟨h,h2⟩
  rcases List.mem_cons.1 h with rfl | h
  ·exact Or.inl ⟨rfl,by simpa using h2⟩
  ·obtain rfl := List.mem_singleton.1 h
   exact Or.inr ⟨rfl,by simpa using h2⟩
 ·rintro (⟨rfl,h⟩ | ⟨rfl,h⟩)
  ·exact ⟨by simp,by simpa using h⟩
  ·exact ⟨by simp,by simpa using h⟩
theorem yx1 (r x : Int × Int) (hx : 1 <= x.2) : (leftL r x).Pairwise fun a b => a.1 + a.2 < b.1 := by
 refine List.Pairwise.filter _ ?_
 refine List.Pairwise.cons (fun b hb => ?_) (List.pairwise_singleton _ _)
 obtain rfl := List.mem_singleton.1 hb
 show r.1 + (x.1 - r.1) < x.1 + x.2
 omega
theorem cut_list {a b : List (Int × Int)} {r x : Int × Int} (hn : Norm 0 (a ++ r :: b)) (hx : 1 <= x.2) (h : inRun x r = true) :
  Norm 0 (a ++ leftL r x ++ b) /\ ∀ p,Cov (a ++ leftL r x ++ b) p ↔ Cov (a ++ r :: b) p /\ ¬ (x.1 <= p /\ p < x.1 + x.2) := by
 obtain ⟨i1,i2⟩ := (xkk x r).1 h
 have hm := xx3 hn
 have hr := hm r (by simp)
 obtain ⟨p1,p2,p3⟩ := List.pairwise_append.1 (xwm hn)
 obtain ⟨p4,p5⟩ := List.pairwise_cons.1 p2
 constructor
 ·refine xwl (fun y hy => ?_) ?_
  ·rcases List.mem_append.1 hy with hy | hy
   ·rcases List.mem_append.1 hy with hy | hy
    ·exact hm y (by simp [hy])
    ·rcases (xzi r x y).1 hy with ⟨rfl,_⟩ | ⟨rfl,_⟩
     ·show 0 <= r.1 /\ 1 <= x.1 - r.1 /\ r.1 + (x.1 - r.1) <= 1024
      omega
     ·show 0 <= x.1 + x.2 /\ 1 <= r.1 + r.2 - (x.1 + x.2) /\ x.1 + x.2 + (r.1 + r.2 - (x.1 + x.2)) <= 1024
      omega
   ·exact hm y (by simp [hy])
  ·rw [List.pairwise_append,List.pairwise_append]
   refine ⟨⟨p1,yx1 r x hx,fun y hy z hz => ?_⟩,p5,fun y hy z hz => ?_⟩
   ·have := p3 y hy r (by simp)
    rcases (xzi r x z).1 hz with ⟨rfl,_⟩ | ⟨rfl,_⟩
    ·exact this
    ·show y.1 + y.2 < x.1 + x.2
     omega
   ·rcases List.mem_append.1 hy with hy | hy
    ·exact p3 y hy z (List.mem_cons_of_mem _ hz)
    ·have := p4 z hz
     rcases (xzi r x y).1 hy with ⟨rfl,_⟩ | ⟨rfl,_⟩
     ·show r.1 + (x.1 - r.1) < z.1
      omega
     ·show x.1 + x.2 + (r.1 + r.2 - (x.1 + x.2)) < z.1
      omega
 ·intro p
  have hl : Cov (leftL r x) p ↔ (r.1 <= p /\ p < r.1 + r.2) /\ ¬ (x.1 <= p /\ p < x.1 + x.2) := by
   constructor
   ·rintro ⟨y,hy,h1,h2⟩
    rcases (xzi r x y).1 hy with ⟨rfl,_⟩ | ⟨rfl,_⟩
    ·simp only at h1 h2;omega
    ·simp only at h1 h2;omega
   ·rintro ⟨h1,h2⟩
    by_cases c : p < x.1
    ·exact ⟨(r.1,x.1 - r.1),(xzi r x _).2 (Or.inl ⟨rfl,by omega⟩),by show r.1 <= p;omega,by show p < r.1 + (x.1 - r.1);omega⟩
    ·exact ⟨(x.1 + x.2,r.1 + r.2 - (x.1 + x.2)),(xzi r x _).2 (Or.inr ⟨rfl,by omega⟩),by show x.1 + x.2 <= p;omega,by show p < x.1 + x.2 + (r.1 + r.2 - (x.1 + x.2));omega⟩
  have ha : Cov a p -> p < r.1 := by
   rintro ⟨y,hy,h1,h2⟩
   have := p3 y hy r (by simp);omega
  have hb : Cov b p -> r.1 + r.2 < p := by
   rintro ⟨y,hy,h1,h2⟩
   have := p4 y hy;omega
  rw [xqq,xqq,xqq,xql,hl]
  constructor
  ·rintro ((c | c) | c)
   ·exact ⟨Or.inl c,by have := ha c;omega⟩
   ·exact ⟨Or.inr (Or.inl c.1),c.2⟩
   ·exact ⟨Or.inr (Or.inr c),by have := hb c;omega⟩
  ·rintro ⟨c | c | c,d⟩
   ·exact Or.inl (Or.inl c)
   ·exact Or.inl (Or.inr ⟨c,d⟩)
   ·exact Or.inr c
theorem yj8 {f : List Bool} (hf : f.length = 1024) {x : Int × Int} (hm : fMay x = true) {i : Nat} {r : Int × Int} (hi : (fList f)[i]? = some r) (h : inRun x r = true) :
  ∃ g,fPut f [x] false = (g,0) /\ fList g = (fList f).take i ++ leftL r x ++ (fList f).drop (i + 1) := by
 obtain ⟨hlt,he⟩ := List.getElem?_eq_some_iff.1 hi
 have e : fList f = (fList f).take i ++ r :: (fList f).drop (i + 1) := by
  rw [<- he,<- List.drop_eq_getElem_cons hlt,List.take_append_drop]
 have hn := xqt f (by omega)
 have hc := (xQy f (by omega) x hm).2 ⟨r,List.mem_of_getElem? hi,h⟩
 obtain ⟨g,eg,hl,hg⟩ := xjo hf (fun y hy => by obtain rfl := List.mem_singleton.1 hy;exact hm) hc
 rw [e] at hn
 obtain ⟨c1,c2⟩ := cut_list hn ((xqd x).1 hm).2.1 h
 refine ⟨g,eg,xw5 g (by omega) _ c1 fun p => ?_⟩
 rw [c2,<- e,xxe]
 have hx : Cov [x] (p : Int) ↔ (x.1 <= (p : Int) /\ (p : Int) < x.1 + x.2) := by
  rw [xql];simp only [iff_false_intro (xxg _),or_false]
 by_cases c : Cov [x] (p : Int)
 ·rw [(hg p).1 c]
  exact ⟨fun d => absurd (hx.1 c) d.2,fun d => by cases d⟩
 ·rw [(hg p).2 c]
  exact ⟨fun d => d.1,fun d => ⟨d,fun k => c (hx.2 k)⟩⟩
theorem cut_no {f : List Bool} (hf : f.length = 1024) {x : Int × Int} (hm : fMay x = true) (h : ∀ r ∈ fList f,inRun x r = false) : fPut f [x] false = (f,9) :=
 yj7 hf (fun y hy => by obtain rfl := List.mem_singleton.1 hy;exact hm) fun hc => by
  obtain ⟨r,hr,h2⟩ := (xQy f (by omega) x hm).1 hc
  rw [h r hr] at h2;cases h2
theorem cut_bad {f : List Bool} {x : Int × Int} {free : Bool} (hm : fMay x = false) : fPut f [x] free = (f,2) := xWy (by simp [hm])
theorem yq1 {f g : List Bool} (hl : f.length = g.length) (h : ∀ p : Nat,f.getD p false = g.getD p false) : f = g := by
 apply List.ext_getElem?
 intro p
 by_cases hp : p < f.length
 ·have := h p
  rw [List.getD_eq_getElem?_getD,List.getD_eq_getElem?_getD,List.getElem?_eq_getElem hp,List.getElem?_eq_getElem (by omega)] at this
  rw [List.getElem?_eq_getElem hp,List.getElem?_eq_getElem (by omega)]
  exact congrArg some this
 ·rw [List.getElem?_eq_none (by omega),List.getElem?_eq_none (by omega)]
theorem xzf (x : Int × Int) (p : Int) : Cov [x] p ↔ x.1 <= p /\ p < x.1 + x.2 := by
 rw [xql];simp only [iff_false_intro (xxg _),or_false]
theorem xZa {x : Int × Int} (h : fMay x = true) : ∀ r ∈ [x],fMay r = true := fun r hr => by obtain rfl := List.mem_singleton.1 hr;exact h
structure Only (f : List Bool) (l : List (Int × Int)) : Prop where
 len : f.length = 1024
 may : ∀ r ∈ l,fMay r = true
 disj : Disj l
 cov : ∀ p : Nat,f.getD p false = true ↔ Cov l (p : Int)
theorem Only.start : Only (List.replicate 1024 false) [] := by
 refine ⟨List.length_replicate,fun r hr => (by cases hr),List.Pairwise.nil,fun p => ⟨fun h => ?_,fun h => absurd h (xxg _)⟩⟩
 rw [List.getD_eq_getElem?_getD,List.getElem?_replicate] at h
 split at h <;> cases h
theorem Only.canPut {f : List Bool} {l : List (Int × Int)} (h : Only f l) (m : List (Int × Int)) (hm : ∀ r ∈ m,fMay r = true) : CanPut true f m ↔ Disj (l ++ m) := by
 unfold CanPut Disj
 rw [List.pairwise_append]
 constructor
 ·rintro ⟨h1,h2⟩
  refine ⟨h.disj,h1,fun a ha b hb => ?_⟩
  obtain ⟨a1,a2,a3⟩ := (xqd a).1 (h.may a ha)
  obtain ⟨b1,b2,b3⟩ := (xqd b).1 (hm b hb)
  refine Classical.byContradiction fun hno => ?_
  have hp : ∃ p : Nat,a.1 <= (p : Int) /\ (p : Int) < a.1 + a.2 /\ b.1 <= (p : Int) /\ (p : Int) < b.1 + b.2 := by
   by_cases d : b.1 <= a.1
   ·exact ⟨a.1.toNat,by omega⟩
   ·exact ⟨b.1.toNat,by omega⟩
  obtain ⟨p,k1,k2,k3,k4⟩ := hp
  exact h2 p ⟨b,hb,k3,k4⟩ ((h.cov p).2 ⟨a,ha,k1,k2⟩)
 ·rintro ⟨_,h1,h2⟩
  refine ⟨h1,fun p ⟨b,hb,k1,k2⟩ e => ?_⟩
  obtain ⟨a,ha,k3,k4⟩ := (h.cov p).1 e
  have := h2 a ha b hb
  omega
structure HeapV where
 pages : Int
 free : List Bool
 l : List (Int × Int × Int × Int)
 last : Int
def hNone : HeapV := ⟨0,[],[],0⟩
def spanNone : Int × Int × Int × Int := (0,0,0,0)
def hNew (pages : Int) : HeapV × Int := if pages < 4 \/ 1024 < pages then (hNone,1) else (⟨pages,(fPut (List.replicate 1024 false) [(0,pages)] true).1,[],0⟩,0)
def hMake (h : HeapV) (pages order : Int) : HeapV × (Int × Int × Int × Int) × Int :=
 if pages < 1 \/ order < -1 \/ 3 < order then (h,spanNone,1) else
 match fBest h.free pages with
 | none => (h,spanNone,3)
 | some r => (⟨h.pages,(fPut h.free [(r.1,pages)] false).1,h.l ++ [(h.last + 1,r.1,pages,order)],h.last + 1⟩,(h.last + 1,r.1,pages,order),0)
def idxInt : Option Nat -> Int
 | some k => (k : Int)
 | none => -1
def hFind (l : List (Int × Int × Int × Int)) (id : Int) : Int := idxInt (l.findIdx? (fun s => s.1 == id))
def inSpan (at' : Int) (s : Int × Int × Int × Int) : Bool := decide (s.2.1 <= at' / 64 /\ at' / 64 < s.2.1 + s.2.2.1)
def hDrop1 (h : HeapV) (id : Int) : Option HeapV := match h.l.findIdx? (fun s => s.1 == id) with
 | none => none
 | some k => some { h with free := (fPut h.free [((h.l.getD k spanNone).2.1,(h.l.getD k spanNone).2.2.1)] true).1,l := h.l.eraseIdx k }
def hDrop (h : HeapV) (ids : List Int) : HeapV × Int := match ids.foldl (fun o i => o.bind (hDrop1 · i)) (some h) with
 | some g => (g,0)
 | none => (h,6)
def hSpans (h : HeapV) : List (Int × Int × Int × Int) := (List.range h.pages.toNat).flatMap fun (p : Nat) => h.l.filter fun s => s.2.1 == (p : Int)
theorem xzw {α : Type} (p : α -> Bool) : ∀ (l : List α) (j : Nat),(∀ i,i < j -> ∀ y,l[i]? = some y -> p y = false) -> (∀ y,l[j]? = some y -> p y = true) -> j < l.length -> l.findIdx? p = some j
 | [],j,_,_,h => by simp at h
 | x :: l,0,_,h2,_ => by rw [List.findIdx?_cons,h2 x rfl];rfl
 | x :: l,j + 1,h1,h2,h3 => by
  rw [List.findIdx?_cons,h1 0 (by omega) x rfl]
  have ih := xzw p l j (fun i hi y hy => h1 (i + 1) (by omega) y (by simpa using hy)) (fun y hy => h2 y (by simpa using hy)) (by simpa using h3)
  simp [ih]
theorem xjb {α : Type} (p : α -> Bool) : ∀ (l : List α),(∀ (i : Nat) (y : α),l[i]? = some y -> p y = false) -> l.findIdx? p = none
 | [],_ => rfl
 | x :: l,h => by
  rw [List.findIdx?_cons,h 0 x rfl]
  have ih := xjb p l (fun i y hy => h (i + 1) y (by simpa using hy))
  simp [ih]
def rnOf (s : Int × Int × Int × Int) : Int × Int := (s.2.1,s.2.2.1)
structure HOk (h : HeapV) : Prop where
 p0 : 4 <= h.pages
 p1 : h.pages <= 1024
 fl : h.free.length = 1024
 may : ∀ s ∈ h.l,fMay (rnOf s) = true
 low : ∀ s ∈ h.l,s.2.1 + s.2.2.1 <= h.pages
 disj : Disj (h.l.map rnOf)
 free : ∀ p : Nat,h.free.getD p false = true ↔ (p : Int) < h.pages /\ ¬ Cov (h.l.map rnOf) (p : Int)
 ids : (h.l.map (·.1)).Nodup
 idr : ∀ s ∈ h.l,1 <= s.1 /\ s.1 <= h.last
 ord : ∀ s ∈ h.l,-1 <= s.2.2.2 /\ s.2.2.2 <= 3
 la : 0 <= h.last
theorem xjc (l : List (Int × Int × Int × Int)) (p : Int) : Cov (l.map rnOf) p ↔ ∃ s ∈ l,s.2.1 <= p /\ p < s.2.1 + s.2.2.1 := by
 constructor
 ·rintro ⟨r,hr,h1,h2⟩
  obtain ⟨s,hs,rfl⟩ := List.mem_map.1 hr
  exact ⟨s,hs,h1,h2⟩
 ·rintro ⟨s,hs,h1,h2⟩
  exact ⟨rnOf s,List.mem_map.2 ⟨s,hs,rfl⟩,h1,h2⟩
theorem cov_perm {l m : List (Int × Int)} (h : l.Perm m) (p : Int) : Cov l p ↔ Cov m p := by
 constructor
 ·rintro ⟨r,hr,k⟩;exact ⟨r,h.mem_iff.1 hr,k⟩
 ·rintro ⟨r,hr,k⟩;exact ⟨r,h.mem_iff.2 hr,k⟩
theorem hNew_no {pages : Int} (h : pages < 4 \/ 1024 < pages) : hNew pages = (hNone,1) := by unfold hNew;rw [if_pos h]
theorem xVg {pages : Int} (h0 : 4 <= pages) (h1 : pages <= 1024) : ∃ f,hNew pages = (⟨pages,f,[],0⟩,0) /\ fPut (List.replicate 1024 false) [(0,pages)] true = (f,0) /\ HOk ⟨pages,f,[],0⟩ := by
 have hm : fMay (0,pages) = true := (xqd _).2 ⟨Int.le_refl _,by show 1 <= pages;omega,by show 0 + pages <= 1024;omega⟩
 obtain ⟨f0,hf0⟩ : ∃ f0,List.replicate 1024 false = f0 := ⟨_,rfl⟩
 have hO : Only f0 [] := by rw [<- hf0];exact Only.start
 obtain ⟨g,e,hg,hp⟩ := xjo hO.len (xZa hm) ((hO.canPut [(0,pages)] (xZa hm)).2 (List.pairwise_singleton _ _))
 have hb := hO.cov
 rw [hf0]
 refine ⟨g,?_,e,?_⟩
 ·unfold hNew
  rw [if_neg (by omega),hf0,e]
 ·refine ⟨h0,h1,hg,fun s hs => (by cases hs),fun s hs => (by cases hs),List.Pairwise.nil,fun p => ?_,List.nodup_nil,fun s hs => (by cases hs),fun s hs => (by cases hs),Int.le_refl _⟩
  by_cases c : (p : Int) < pages
  ·rw [(hp p).1 ((xzf _ _).2 ⟨by show (0 : Int) <= p;omega,by show (p : Int) < 0 + pages;omega⟩)]
   exact ⟨fun _ => ⟨c,xxg _⟩,fun _ => rfl⟩
  ·rw [(hp p).2 (fun d => by have := (xzf _ _).1 d;simp only at this;omega),hb p]
   exact ⟨fun d => absurd d (xxg _),fun d => absurd d.1 c⟩
theorem HOk.make {h : HeapV} (k : HOk h) {n o : Int} {r : Int × Int} (hb : fBest h.free n = some r) (h1 : 1 <= n) (ho : -1 <= o /\ o <= 3) :
  ∃ g,fPut h.free [(r.1,n)] false = (g,0) /\ fMay (r.1,n) = true /\ r.1 + n <= h.pages /\ HOk ⟨h.pages,g,h.l ++ [(h.last + 1,r.1,n,o)],h.last + 1⟩ := by
 obtain ⟨_,h2,h3⟩ := xwr (by rw [k.fl];exact Nat.le_refl _) hb
 obtain ⟨S,L,hrs,hL,hSL⟩ := xw4 h.free r h3
 rw [k.fl] at hSL
 have hr1 : r.1 = (S : Int) := by rw [hrs]
 have hr2 : r.2 = (L : Int) := by rw [hrs]
 have hm : fMay (r.1,n) = true := (xqd _).2 ⟨by show 0 <= r.1;omega,h1,by show r.1 + n <= 1024;omega⟩
 have hfree : ∀ p : Nat,Cov [(r.1,n)] (p : Int) -> h.free.getD p false = true := fun p hp => by
  have := (xzf _ _).1 hp
  simp only at this
  exact (xxe h.free p).1 ⟨r,h3,by omega,by omega⟩
 have hin : ∀ p : Nat,Cov [(r.1,n)] (p : Int) -> (p : Int) < h.pages /\ ¬ Cov (h.l.map rnOf) (p : Int) := fun p hp => (k.free p).1 (hfree p hp)
 have hlow : r.1 + n <= h.pages := by
  have := hin (r.1 + n - 1).toNat ((xzf _ _).2 ⟨by show r.1 <= _;omega,by show _ < r.1 + n;omega⟩)
  omega
 obtain ⟨g,e,hg,hp⟩ := xjo (free := false) k.fl (xZa hm) ⟨List.pairwise_singleton _ _,fun p hp => by rw [hfree p hp];decide⟩
 refine ⟨g,e,hm,hlow,⟨k.p0,k.p1,hg,fun s hs => ?_,fun s hs => ?_,?_,fun p => ?_,?_,fun s hs => ?_,fun s hs => ?_,by have := k.la;show 0 <= h.last + 1;omega⟩⟩
 ·rcases List.mem_append.1 hs with hs | hs
  ·exact k.may s hs
  ·obtain rfl := List.mem_singleton.1 hs;exact hm
 ·rcases List.mem_append.1 hs with hs | hs
  ·exact k.low s hs
  ·obtain rfl := List.mem_singleton.1 hs;exact hlow
 ·show Disj ((h.l ++ [(h.last + 1,r.1,n,o)]).map rnOf)
  rw [List.map_append]
  refine List.pairwise_append.2 ⟨k.disj,List.pairwise_singleton _ _,fun a ha b hb => ?_⟩
  obtain rfl : b = (r.1,n) := by simpa [rnOf] using hb
  obtain ⟨s,hs,rfl⟩ := List.mem_map.1 ha
  obtain ⟨a1,a2,a3⟩ := (xqd _).1 (k.may s hs)
  refine Classical.byContradiction fun hno => ?_
  have hq : ∃ p : Nat,(rnOf s).1 <= (p : Int) /\ (p : Int) < (rnOf s).1 + (rnOf s).2 /\ r.1 <= (p : Int) /\ (p : Int) < r.1 + n := by
   simp only at hno
   by_cases d : r.1 <= (rnOf s).1
   ·exact ⟨(rnOf s).1.toNat,by omega⟩
   ·exact ⟨r.1.toNat,by omega⟩
  obtain ⟨p,b1,b2,b3,b4⟩ := hq
  exact (hin p ((xzf _ _).2 ⟨b3,b4⟩)).2 ⟨rnOf s,List.mem_map.2 ⟨s,hs,rfl⟩,b1,b2⟩
 ·show g.getD p false = true ↔ (p : Int) < h.pages /\ ¬ Cov ((h.l ++ [(h.last + 1,r.1,n,o)]).map rnOf) (p : Int)
  rw [List.map_append,xqq]
  by_cases c : Cov [(r.1,n)] (p : Int)
  ·rw [(hp p).1 c]
   exact ⟨fun d => (by cases d),fun d => absurd (Or.inr c) d.2⟩
  ·rw [(hp p).2 c,k.free p]
   exact ⟨fun d => ⟨d.1,fun e => e.elim d.2 c⟩,fun d => ⟨d.1,fun e => d.2 (Or.inl e)⟩⟩
 ·show ((h.l ++ [(h.last + 1,r.1,n,o)]).map (·.1)).Nodup
  rw [List.map_append]
  refine List.nodup_append.2 ⟨k.ids,by simp,fun a ha b hb => ?_⟩
  obtain rfl : b = h.last + 1 := by simpa using hb
  obtain ⟨s,hs,rfl⟩ := List.mem_map.1 ha
  have := k.idr s hs
  omega
 ·rcases List.mem_append.1 hs with hs | hs
  ·have := k.idr s hs;show 1 <= s.1 /\ s.1 <= h.last + 1;omega
  ·obtain rfl := List.mem_singleton.1 hs
   have := k.la
   show 1 <= h.last + 1 /\ h.last + 1 <= h.last + 1
   omega
 ·rcases List.mem_append.1 hs with hs | hs
  ·exact k.ord s hs
  ·obtain rfl := List.mem_singleton.1 hs;exact ho
theorem HOk.drop {h : HeapV} (k : HOk h) {s : Int × Int × Int × Int} {m : List (Int × Int × Int × Int)} (hp : (s :: m).Perm h.l) :
  ∃ g,fPut h.free [rnOf s] true = (g,0) /\ HOk ⟨h.pages,g,m,h.last⟩ := by
 have hs : s ∈ h.l := hp.mem_iff.1 (List.mem_cons_self ..)
 have hsub : ∀ x ∈ m,x ∈ h.l := fun x hx => hp.mem_iff.1 (List.mem_cons_of_mem _ hx)
 have hm := k.may s hs
 have hpm : (rnOf s :: m.map rnOf).Perm (h.l.map rnOf) := by have := hp.map rnOf;rwa [List.map_cons] at this
 have hd : Disj (rnOf s :: m.map rnOf) := (xwo hpm).2 k.disj
 have hd2 := List.pairwise_cons.1 hd
 have hcov : ∀ p : Int,Cov (h.l.map rnOf) p ↔ Cov [rnOf s] p \/ Cov (m.map rnOf) p := fun p => by
  rw [<- cov_perm hpm p,xql,xzf]
 obtain ⟨g,e,hg,hq⟩ := xjo (free := true) k.fl (xZa hm) ⟨List.pairwise_singleton _ _,fun p hp => by
  intro c
  exact ((k.free p).1 c).2 ((hcov p).2 (Or.inl hp))⟩
 have hid : (s.1 :: m.map (·.1)).Nodup := by
  have := (hp.map (·.1)).nodup_iff.2 k.ids
  rwa [List.map_cons] at this
 refine ⟨g,e,⟨k.p0,k.p1,hg,fun x hx => k.may x (hsub x hx),fun x hx => k.low x (hsub x hx),hd2.2,fun p => ?_,(List.nodup_cons.1 hid).2,fun x hx => k.idr x (hsub x hx),fun x hx => k.ord x (hsub x hx),k.la⟩⟩
 show g.getD p false = true ↔ (p : Int) < h.pages /\ ¬ Cov (m.map rnOf) (p : Int)
 by_cases c : Cov [rnOf s] (p : Int)
 ·rw [(hq p).1 c]
  have c2 := (xzf _ _).1 c
  refine ⟨fun _ => ⟨?_,?_⟩,fun _ => rfl⟩
  ·have := k.low s hs
   have h2 : (rnOf s).1 = s.2.1 := rfl
   have h3 : (rnOf s).2 = s.2.2.1 := rfl
   omega
  ·rintro ⟨r,hr,b1,b2⟩
   have := hd2.1 r hr
   omega
 ·rw [(hq p).2 c,k.free p,hcov p]
  exact ⟨fun d => ⟨d.1,fun e => d.2 (Or.inr e)⟩,fun d => ⟨d.1,fun e => e.elim c d.2⟩⟩
theorem xJr {h : HeapV} {n o : Int} (c : n < 1 \/ o < -1 \/ 3 < o) : hMake h n o = (h,spanNone,1) := by unfold hMake;rw [if_pos c]
theorem xzj {h : HeapV} {n o : Int} (c : ¬ (n < 1 \/ o < -1 \/ 3 < o)) (hb : fBest h.free n = none) : hMake h n o = (h,spanNone,3) := by unfold hMake;rw [if_neg c,hb]
theorem xzk {h : HeapV} (k : HOk h) {n o : Int} (c : ¬ (n < 1 \/ o < -1 \/ 3 < o)) {r : Int × Int} (hb : fBest h.free n = some r) :
  ∃ g,fPut h.free [(r.1,n)] false = (g,0) /\ fMay (r.1,n) = true /\ r.1 + n <= h.pages /\ hMake h n o = (⟨h.pages,g,h.l ++ [(h.last + 1,r.1,n,o)],h.last + 1⟩,(h.last + 1,r.1,n,o),0) /\ HOk ⟨h.pages,g,h.l ++ [(h.last + 1,r.1,n,o)],h.last + 1⟩ := by
 obtain ⟨g,e,h1,h2,h3⟩ := k.make (o := o) hb (by omega) (by omega)
 refine ⟨g,e,h1,h2,?_,h3⟩
 unfold hMake
 rw [if_neg c,hb]
 simp only
 rw [e]
theorem yq2 {h : HeapV} (k : HOk h) (n o : Int) : HOk (hMake h n o).1 /\ (hMake h n o).1.pages = h.pages /\ (hMake h n o).1.l.length <= h.l.length + 1 /\ (hMake h n o).1.last <= h.last + 1 := by
 by_cases c : n < 1 \/ o < -1 \/ 3 < o
 ·rw [xJr c];exact ⟨k,rfl,Nat.le_succ _,by show h.last <= h.last + 1;omega⟩
 ·cases hb : fBest h.free n with
  | none => rw [xzj c hb];exact ⟨k,rfl,Nat.le_succ _,by show h.last <= h.last + 1;omega⟩
  | some r =>
   obtain ⟨g,_,_,_,e,h3⟩ := xzk k c hb
   rw [e]
   exact ⟨h3,rfl,by simp,Int.le_refl _⟩
theorem xQz {α : Type} : ∀ (l : List α) (i : Nat) (hi : i < l.length),(l[i] :: l.eraseIdx i).Perm l
 | x :: l,0,_ => List.Perm.refl _
 | x :: l,i + 1,hi => by
  have ih := xQz l i (by simpa using hi)
  exact (List.Perm.swap _ _ _).trans (ih.cons x)
theorem xZb : ∀ {l : List (Int × Int × Int × Int)} {a b : Int × Int × Int × Int},(l.map (·.1)).Nodup -> a ∈ l -> b ∈ l -> a.1 = b.1 -> a = b
 | [],_,_,_,h,_,_ => by cases h
 | x :: l,a,b,hd,ha,hb,e => by
  rw [List.map_cons,List.nodup_cons] at hd
  rcases List.mem_cons.1 ha with ea | ha2
  ·rcases List.mem_cons.1 hb with eb | hb2
   ·rw [ea,eb]
   ·exact absurd (show x.1 ∈ l.map (·.1) from List.mem_map.2 ⟨b,hb2,by rw [<- e,ea]⟩) hd.1
  ·rcases List.mem_cons.1 hb with eb | hb2
   ·exact absurd (show x.1 ∈ l.map (·.1) from List.mem_map.2 ⟨a,ha2,by rw [e,eb]⟩) hd.1
   ·exact xZb hd.2 ha2 hb2 e
theorem yx2 {l : List (Int × Int × Int × Int)} {id : Int} {i : Nat} (h : l.findIdx? (fun s => s.1 == id) = some i) : ∃ s,l[i]? = some s /\ s.1 = id /\ i < l.length /\ l.getD i spanNone = s /\ (s :: l.eraseIdx i).Perm l := by
 obtain ⟨hi,hp,_⟩ := List.findIdx?_eq_some_iff_getElem.1 h
 refine ⟨l[i],List.getElem?_eq_getElem hi,by simpa using hp,hi,?_,xQz l i hi⟩
 rw [List.getD_eq_getElem?_getD,List.getElem?_eq_getElem hi];rfl
theorem xJs {l : List (Int × Int × Int × Int)} {id : Int} : l.findIdx? (fun s => s.1 == id) = none ↔ ∀ s ∈ l,s.1 ≠ id := by
 rw [List.findIdx?_eq_none_iff]
 constructor
 ·intro h s hs e;have := h s hs;simp [e] at this
 ·intro h s hs;simpa using h s hs
theorem xjd : ∀ {l : List (Int × Int × Int × Int)} {id : Int} {i : Nat},(l.map (·.1)).Nodup -> l.findIdx? (fun s => s.1 == id) = some i -> l.eraseIdx i = l.filter (fun s => s.1 != id)
 | [],id,i,_,h => by simp at h
 | x :: l,id,i,hd,h => by
  rw [List.map_cons,List.nodup_cons] at hd
  rw [List.findIdx?_cons] at h
  by_cases e : x.1 = id
  ·have e' : (x.1 == id) = true := by simpa using e
   rw [if_pos e'] at h
   obtain rfl := Option.some.inj h
   rw [List.eraseIdx_cons_zero,List.filter_cons,if_neg (by simp [e])]
   refine (List.filter_eq_self.2 fun s hs => ?_).symm
   have : s.1 ≠ x.1 := fun e2 => hd.1 (List.mem_map.2 ⟨s,hs,e2⟩)
   simp only [bne_iff_ne]
   rw [<- e];exact this
  ·have e' : ¬ ((x.1 == id) = true) := by simpa using e
   rw [if_neg e'] at h
   cases h2 : l.findIdx? (fun s => s.1 == id) with
   | none => rw [h2] at h;cases h
   | some j =>
    rw [h2] at h
    obtain rfl : j + 1 = i := by simpa using h
    rw [List.eraseIdx_cons_succ,List.filter_cons,if_pos (by simpa using e),xjd hd.2 h2]
theorem xVh {h : HeapV} {id : Int} (c : ∀ s ∈ h.l,s.1 ≠ id) : hDrop1 h id = none := by unfold hDrop1;rw [xJs.2 c]
theorem xVi {h : HeapV} (k : HOk h) {s : Int × Int × Int × Int} (hs : s ∈ h.l) : ∃ g,hDrop1 h s.1 = some ⟨h.pages,g,h.l.filter (fun x => x.1 != s.1),h.last⟩ /\ fPut h.free [rnOf s] true = (g,0) /\ HOk ⟨h.pages,g,h.l.filter (fun x => x.1 != s.1),h.last⟩ := by
 cases hf : h.l.findIdx? (fun x => x.1 == s.1) with
 | none => exact absurd rfl (xJs.1 hf s hs)
 | some i =>
  obtain ⟨s',h1,h2,h3,h4,h5⟩ := yx2 hf
  have es : s' = s := xZb k.ids (List.mem_of_getElem? h1) hs h2
  subst es
  obtain ⟨g,e,hk⟩ := k.drop h5
  rw [xjd k.ids hf] at hk
  refine ⟨g,?_,e,hk⟩
  unfold hDrop1
  rw [hf]
  simp only
  rw [h4,xjd k.ids hf]
  show some _ = some _
  congr 1
  have : (fPut h.free [(s'.2.1,s'.2.2.1)] true).1 = g := by rw [show (s'.2.1,s'.2.2.1) = rnOf s' from rfl,e]
  rw [this]
def hLeft (l : List (Int × Int × Int × Int)) (ids : List Int) : List (Int × Int × Int × Int) := l.filter (fun s => !ids.contains s.1)
theorem xX0 : ∀ ids : List Int,ids.foldl (fun (o : Option HeapV) i => o.bind (hDrop1 · i)) none = none
 | [] => rfl
 | _ :: ids => xX0 ids
theorem hFold {h : HeapV} (k : HOk h) : ∀ (ids : List Int),(ids.Nodup /\ (∀ i ∈ ids,∃ s ∈ h.l,s.1 = i) -> ∃ g,ids.foldl (fun (o : Option HeapV) i => o.bind (hDrop1 · i)) (some h) = some ⟨h.pages,g,hLeft h.l ids,h.last⟩ /\ HOk ⟨h.pages,g,hLeft h.l ids,h.last⟩) /\
  (¬ (ids.Nodup /\ (∀ i ∈ ids,∃ s ∈ h.l,s.1 = i)) -> ids.foldl (fun (o : Option HeapV) i => o.bind (hDrop1 · i)) (some h) = none)
 | [] => by
  refine ⟨fun _ => ⟨h.free,?_,?_⟩,fun c => absurd ⟨List.nodup_nil,fun i hi => by cases hi⟩ c⟩
  ·show some h = some _
   congr 1
   unfold hLeft
   rw [List.filter_eq_self.2 (fun s _ => by simp)]
  ·unfold hLeft
   rw [List.filter_eq_self.2 (fun s _ => by simp)]
   exact k
 | i :: ids => by
  by_cases ci : ∃ s ∈ h.l,s.1 = i
  ·obtain ⟨s,hs,rfl⟩ := ci
   obtain ⟨g,e,_,k2⟩ := xVi k hs
   have ih := hFold k2 ids
   have hl2 : hLeft (h.l.filter (fun x => x.1 != s.1)) ids = hLeft h.l (s.1 :: ids) := by
    unfold hLeft
    rw [List.filter_filter]
    congr 1
    funext x
    simp only [List.contains_cons,Bool.not_or,Bool.and_comm]
    cases h1 : ids.contains x.1 <;> simp [bne]
   have hiff : (ids.Nodup /\ (∀ j ∈ ids,∃ x ∈ h.l.filter (fun x => x.1 != s.1),x.1 = j)) ↔ ((s.1 :: ids).Nodup /\ (∀ j ∈ s.1 :: ids,∃ x ∈ h.l,x.1 = j)) := by
    rw [List.nodup_cons]
    constructor
    ·rintro ⟨h1,h2⟩
     refine ⟨⟨fun hm => ?_,h1⟩,fun j hj => ?_⟩
     ·obtain ⟨x,hx,ex⟩ := h2 _ hm
      have := (List.mem_filter.1 hx).2
      simp [ex] at this
     ·rcases List.mem_cons.1 hj with rfl | hj
      ·exact ⟨s,hs,rfl⟩
      ·obtain ⟨x,hx,ex⟩ := h2 _ hj
       exact ⟨x,(List.mem_filter.1 hx).1,ex⟩
    ·rintro ⟨⟨h1,h2⟩,h3⟩
     refine ⟨h2,fun j hj => ?_⟩
     obtain ⟨x,hx,ex⟩ := h3 j (List.mem_cons_of_mem _ hj)
     refine ⟨x,List.mem_filter.2 ⟨hx,?_⟩,ex⟩
     simp only [bne_iff_ne]
     intro e2
     exact h1 (by rw [<- e2,ex];exact hj)
   show (_ -> ∃ g,ids.foldl _ ((some h).bind (hDrop1 · s.1)) = _ /\ _) /\ (_ -> ids.foldl _ ((some h).bind (hDrop1 · s.1)) = none)
   rw [show (some h).bind (hDrop1 · s.1) = hDrop1 h s.1 from rfl,e,<- hl2,<- hiff]
   exact ih
  ·have e : hDrop1 h i = none := xVh (fun s hs e => ci ⟨s,hs,e⟩)
   refine ⟨fun c => absurd (c.2 i (List.mem_cons_self ..)) ci,fun _ => ?_⟩
   show ids.foldl _ ((some h).bind (hDrop1 · i)) = none
   rw [show (some h).bind (hDrop1 · i) = hDrop1 h i from rfl,e]
   exact xX0 ids
theorem xzl {h : HeapV} (k : HOk h) {ids : List Int} (c : ids.Nodup /\ ∀ i ∈ ids,∃ s ∈ h.l,s.1 = i) : ∃ g,hDrop h ids = (⟨h.pages,g,hLeft h.l ids,h.last⟩,0) /\ HOk ⟨h.pages,g,hLeft h.l ids,h.last⟩ := by
 obtain ⟨g,e,h1⟩ := (hFold k ids).1 c
 refine ⟨g,?_,h1⟩
 unfold hDrop
 rw [e]
theorem xw6 {h : HeapV} (k : HOk h) {ids : List Int} (c : ¬ (ids.Nodup /\ ∀ i ∈ ids,∃ s ∈ h.l,s.1 = i)) : hDrop h ids = (h,6) := by
 unfold hDrop
 rw [(hFold k ids).2 c]
theorem yq3 {h : HeapV} (k : HOk h) (ids : List Int) : HOk (hDrop h ids).1 /\ (hDrop h ids).1.pages = h.pages /\ (hDrop h ids).1.l.length <= h.l.length /\ (hDrop h ids).1.last = h.last := by
 by_cases c : ids.Nodup /\ ∀ i ∈ ids,∃ s ∈ h.l,s.1 = i
 ·obtain ⟨g,e,h1⟩ := xzl k c
  rw [e]
  exact ⟨h1,rfl,List.length_filter_le _ _,rfl⟩
 ·rw [xw6 k c];exact ⟨k,rfl,Nat.le_refl _,rfl⟩
def Rises (l : List (Int × Int × Int × Int)) : Prop := l.Pairwise fun a b => a.2.1 < b.2.1
theorem xX1 : ∀ {l m : List (Int × Int × Int × Int)},Rises l -> Rises m -> (∀ s,s ∈ l ↔ s ∈ m) -> l = m
 | [],[],_,_,_ => rfl
 | [],y :: m,_,_,h => absurd ((h y).2 (List.mem_cons_self ..)) (by simp)
 | x :: l,[],_,_,h => absurd ((h x).1 (List.mem_cons_self ..)) (by simp)
 | x :: l,y :: m,hl,hm,h => by
  obtain ⟨h1,h2⟩ := List.pairwise_cons.1 hl
  obtain ⟨h3,h4⟩ := List.pairwise_cons.1 hm
  have hxy : x = y := by
   rcases List.mem_cons.1 ((h x).1 (List.mem_cons_self ..)) with e | e
   ·exact e
   ·rcases List.mem_cons.1 ((h y).2 (List.mem_cons_self ..)) with e2 | e2
    ·exact e2.symm
    ·have := h3 x e
     have := h1 y e2
     omega
  subst hxy
  congr 1
  refine xX1 h2 h4 fun s => ⟨fun hs => ?_,fun hs => ?_⟩
  ·rcases List.mem_cons.1 ((h s).1 (List.mem_cons_of_mem _ hs)) with e | e
   ·subst e;have := h1 s hs;omega
   ·exact e
  ·rcases List.mem_cons.1 ((h s).2 (List.mem_cons_of_mem _ hs)) with e | e
   ·subst e;have := h3 s hs;omega
   ·exact e
theorem HOk.apart {h : HeapV} (k : HOk h) {a b : Int × Int × Int × Int} (ha : a ∈ h.l) (hb : b ∈ h.l) {p : Int} (h1 : a.2.1 <= p /\ p < a.2.1 + a.2.2.1) (h2 : b.2.1 <= p /\ p < b.2.1 + b.2.2.1) : a = b := by
 refine Classical.byContradiction fun hne => ?_
 have hd := k.disj
 have hp : h.l.Pairwise fun a b => (rnOf a).1 + (rnOf a).2 <= (rnOf b).1 \/ (rnOf b).1 + (rnOf b).2 <= (rnOf a).1 := List.pairwise_map.1 hd
 have key : ∀ l : List (Int × Int × Int × Int),l.Pairwise (fun a b => (rnOf a).1 + (rnOf a).2 <= (rnOf b).1 \/ (rnOf b).1 + (rnOf b).2 <= (rnOf a).1) -> a ∈ l -> b ∈ l -> False := by
  intro l
  induction l with
  | nil => intro _ h _;cases h
  | cons x l ih =>
   intro hp ha hb
   obtain ⟨q1,q2⟩ := List.pairwise_cons.1 hp
   have r1 : (rnOf a).1 = a.2.1 := rfl
   have r2 : (rnOf a).2 = a.2.2.1 := rfl
   have r3 : (rnOf b).1 = b.2.1 := rfl
   have r4 : (rnOf b).2 = b.2.2.1 := rfl
   rcases List.mem_cons.1 ha with ea | ha2
   ·rcases List.mem_cons.1 hb with eb | hb2
    ·exact hne (ea.trans eb.symm)
    ·have := q1 b hb2;rw [<- ea] at this;omega
   ·rcases List.mem_cons.1 hb with eb | hb2
    ·have := q1 a ha2;rw [<- eb] at this;omega
    ·exact ih q2 ha2 hb2
 exact key h.l hp ha hb
theorem HOk.start {h : HeapV} (k : HOk h) {s : Int × Int × Int × Int} (hs : s ∈ h.l) : 0 <= s.2.1 /\ 1 <= s.2.2.1 /\ s.2.1 + s.2.2.1 <= h.pages := by
 obtain ⟨a1,a2,a3⟩ := (xqd _).1 (k.may s hs)
 exact ⟨a1,a2,k.low s hs⟩
theorem HOk.l_nodup {h : HeapV} (k : HOk h) : h.l.Nodup := by
 have := k.ids
 unfold List.Nodup at this ⊢
 rw [List.pairwise_map] at this
 exact this.imp fun hne e => hne (by rw [e])
theorem yj9 {h : HeapV} (k : HOk h) (p : Nat) : (h.l.filter fun s => s.2.1 == (p : Int)) = [] \/ ∃ s ∈ h.l,s.2.1 = (p : Int) /\ (h.l.filter fun s => s.2.1 == (p : Int)) = [s] := by
 cases e : h.l.filter (fun s => s.2.1 == (p : Int)) with
 | nil => exact Or.inl rfl
 | cons s m =>
  have hs := List.mem_filter.1 (show s ∈ h.l.filter (fun s => s.2.1 == (p : Int)) by rw [e];exact List.mem_cons_self ..)
  refine Or.inr ⟨s,hs.1,by simpa using hs.2,?_⟩
  cases m with
  | nil => rfl
  | cons t m =>
   exfalso
   have ht := List.mem_filter.1 (show t ∈ h.l.filter (fun s => s.2.1 == (p : Int)) by rw [e];exact List.mem_cons_of_mem _ (List.mem_cons_self ..))
   have h1 : s.2.1 = (p : Int) := by simpa using hs.2
   have h2 : t.2.1 = (p : Int) := by simpa using ht.2
   have := k.start hs.1
   have := k.start ht.1
   have est : s = t := k.apart hs.1 ht.1 (p := (p : Int)) (by omega) (by omega)
   have hn : (h.l.filter (fun s => s.2.1 == (p : Int))).Nodup := k.l_nodup.filter _
   rw [e,est] at hn
   exact (List.nodup_cons.1 hn).1 (List.mem_cons_self ..)
theorem xX2 {h : HeapV} (k : HOk h) (s : Int × Int × Int × Int) : s ∈ hSpans h ↔ s ∈ h.l := by
 unfold hSpans
 rw [List.mem_flatMap]
 constructor
 ·rintro ⟨p,_,hs⟩;exact (List.mem_filter.1 hs).1
 ·intro hs
  have h1 := k.start hs
  exact ⟨s.2.1.toNat,List.mem_range.2 (by omega),List.mem_filter.2 ⟨hs,by simp;omega⟩⟩
theorem xvt {h : HeapV} (k : HOk h) : Rises (hSpans h) := by
 unfold hSpans Rises
 obtain ⟨n,hn⟩ : ∃ n,h.pages.toNat = n := ⟨_,rfl⟩
 rw [hn]
 clear hn
 induction n with
 | zero => exact List.Pairwise.nil
 | succ n ih =>
  rw [List.range_succ,List.flatMap_append]
  refine List.pairwise_append.2 ⟨ih,?_,fun a ha b hb => ?_⟩
  ·rw [List.flatMap_singleton]
   rcases yj9 k n with e | ⟨s,_,_,e⟩
   ·rw [e];exact List.Pairwise.nil
   ·rw [e];exact List.pairwise_singleton _ _
  ·obtain ⟨p,hp,ha2⟩ := List.mem_flatMap.1 ha
   obtain ⟨q,hq,hb2⟩ := List.mem_flatMap.1 hb
   have h1 := List.mem_range.1 hp
   obtain rfl := List.mem_singleton.1 hq
   have h2 : a.2.1 = (p : Int) := by simpa using (List.mem_filter.1 ha2).2
   have h3 : b.2.1 = (q : Int) := by simpa using (List.mem_filter.1 hb2).2
   omega
theorem yja {h : HeapV} (k : HOk h) {l : List (Int × Int × Int × Int)} (hr : Rises l) (hm : ∀ s,s ∈ l ↔ s ∈ h.l) : hSpans h = l := xX1 (xvt k) hr fun s => (xX2 k s).trans (hm s).symm
theorem HOk.free_eq {h g : HeapV} (k : HOk h) (k2 : HOk g) (hp : h.pages = g.pages) (hm : ∀ s,s ∈ h.l ↔ s ∈ g.l) : h.free = g.free := by
 refine yq1 (by rw [k.fl,k2.fl]) fun p => ?_
 have h1 : Cov (h.l.map rnOf) (p : Int) ↔ Cov (g.l.map rnOf) (p : Int) := by
  rw [xjc,xjc]
  constructor
  ·rintro ⟨s,hs,e⟩;exact ⟨s,(hm s).1 hs,e⟩
  ·rintro ⟨s,hs,e⟩;exact ⟨s,(hm s).2 hs,e⟩
 have h2 := (k.free p)
 have h3 := (k2.free p)
 rw [hp,h1,<- h3] at h2
 cases e : h.free.getD p false <;> cases e2 : g.free.getD p false
 ·rfl
 ·rw [e,e2] at h2;exact absurd (h2.2 rfl) (by decide)
 ·rw [e,e2] at h2;exact absurd (h2.1 rfl) (by decide)
 ·rfl
theorem HOk.ends {h : HeapV} (k : HOk h) (hl : h.l = []) : fList h.free = [(0,h.pages)] := by
 have h0 := k.p0
 have h1 := k.p1
 refine xw5 _ (by rw [k.fl];exact Nat.le_refl _) _ ?_ fun p => ?_
 ·exact xwl (fun r hr => by obtain rfl := List.mem_singleton.1 hr;exact ⟨Int.le_refl _,by show 1 <= h.pages;omega,by show 0 + h.pages <= 1024;omega⟩) (List.pairwise_singleton _ _)
 ·rw [k.free p,hl,xzf]
  constructor
  ·rintro ⟨_,c⟩;exact ⟨by simp only at c;omega,xxg _⟩
  ·rintro ⟨c,_⟩;exact ⟨by show (0 : Int) <= p;omega,by show (p : Int) < 0 + h.pages;omega⟩
structure Paint (ids : List Int) (h : HeapV) : Prop where
 len : (ids.length : Int) = h.pages
 of : ∀ s ∈ h.l,∀ p : Nat,s.2.1 <= p -> (p : Int) < s.2.1 + s.2.2.1 -> ids.getD p 0 = s.1
 no : ∀ p : Nat,¬ Cov (h.l.map rnOf) (p : Int) -> ids.getD p 0 = 0
theorem xws (x : List Int) : ∀ (ps d : List Nat),(∀ p ∈ ps,x.getD p 0 ≠ 0) -> okAll x true d ps = true
 | [],_,_ => rfl
 | p :: ps,d,h => by
  show (okOne x true d p && okAll x true (d ++ [p]) ps) = true
  rw [xws x ps _ (fun q hq => h q (List.mem_cons_of_mem _ hq))]
  simpa [okOne] using h p (List.mem_cons_self ..)
theorem xJt (x : List Int) : ∀ (ps d : List Nat),(∀ p ∈ ps,x.getD p 0 = 0 /\ p ∉ d) -> ps.Nodup -> okAll x false d ps = true
 | [],_,_,_ => rfl
 | p :: ps,d,h,hn => by
  have hn2 := List.nodup_cons.1 hn
  show (okOne x false d p && okAll x false (d ++ [p]) ps) = true
  rw [xJt x ps _ (fun q hq => ⟨(h q (List.mem_cons_of_mem _ hq)).1,fun c => by
   rcases List.mem_append.1 c with c | c
   ·exact (h q (List.mem_cons_of_mem _ hq)).2 c
   ·obtain rfl := List.mem_singleton.1 c;exact hn2.1 hq⟩) hn2.2]
  have := h p (List.mem_cons_self ..)
  simp [okOne,this.2]
  simpa using this.1
theorem pgs_one (r : Int × Int) : pgs [r] = (List.range r.2.toNat).map (r.1.toNat + ·) := by simp [pgs]
theorem xZc (r : Int × Int) : (pgs [r]).Nodup := by
 rw [pgs_one]
 unfold List.Nodup
 rw [List.pairwise_map]
 exact (List.nodup_range (n := r.2.toNat)).imp fun hab e => hab (by simpa using e)
theorem xVj {r : Int × Int} (h : fMay r = true) : ∀ x ∈ [r],0 <= x.1 /\ 1 <= x.2 := fun x hx => by
 obtain rfl := List.mem_singleton.1 hx
 have := (xqd _).1 h
 omega
theorem yjb (n : Nat) (f : List Bool) (la : Int) : Paint (List.replicate n 0) ⟨(n : Int),f,[],la⟩ :=
 ⟨by simp,fun s hs => (by cases hs),fun p _ => by
  rw [List.getD_eq_getElem?_getD,List.getElem?_replicate]
  split <;> rfl⟩
theorem yx3 {h : HeapV} {ids : List Int} (k : HOk h) (hp : Paint ids h) {n o : Int} {r : Int × Int} (hb : fBest h.free n = some r) (h1 : 1 <= n) (g : List Bool) (hm : fMay (r.1,n) = true) (hlow : r.1 + n <= h.pages) :
  ∃ ids',xPut ids (h.last + 1) [(r.1,n)] false = (ids',0) /\ Paint ids' ⟨h.pages,g,h.l ++ [(h.last + 1,r.1,n,o)],h.last + 1⟩ := by
 obtain ⟨_,h2,h3⟩ := xwr (by rw [k.fl];exact Nat.le_refl _) hb
 have hla := k.la
 have hpl := hp.len
 obtain ⟨a1,a2,a3⟩ := (xqd _).1 hm
 simp only at a1 a2 a3
 have hfree : ∀ p : Nat,p ∈ pgs [(r.1,n)] -> ¬ Cov (h.l.map rnOf) (p : Int) := fun p hq => by
  have := (xzf _ _).1 ((xv4 (xVj hm) p).1 hq)
  simp only at this
  exact ((k.free p).1 ((xxe h.free p).1 ⟨r,h3,by omega,by omega⟩)).2
 have hth : [(r.1,n)].all (xThere ids.length) = true := by
  simp only [List.all_cons,List.all_nil,Bool.and_true]
  unfold xThere
  exact decide_eq_true ⟨by show 1 <= n;omega,by show 0 <= r.1;omega,by show r.1 < _;omega,by show n <= _;omega,by show r.1 + n <= _;omega⟩
 have e := xjn ids (h.last + 1) [(r.1,n)] false (fun _ => by omega) hth
 rw [xJt ids (pgs [(r.1,n)]) [] (fun p hq => ⟨hp.no p (hfree p hq),fun c => by cases c⟩) (xZc _),if_pos rfl] at e
 refine ⟨_,e,⟨?_,?_,?_⟩⟩
 ·rw [xxd];exact hpl
 ·intro s hs p p1 p2
  rw [xz1 _ _ _ _ (xJi _ _ hth)]
  rcases List.mem_append.1 hs with hs | hs
  ·have hc : ¬ p ∈ pgs [(r.1,n)] := fun c => hfree p c ((xjc _ _).2 ⟨s,hs,p1,p2⟩)
   rw [if_neg (by simpa using hc)]
   exact hp.of s hs p p1 p2
  ·obtain rfl := List.mem_singleton.1 hs
   have hc : p ∈ pgs [(r.1,n)] := (xv4 (xVj hm) p).2 ((xzf _ _).2 ⟨p1,p2⟩)
   rw [if_pos (by simpa using hc)];rfl
 ·intro p hc
  have hc2 : ¬ Cov ((h.l ++ [(h.last + 1,r.1,n,o)]).map rnOf) (p : Int) := hc
  rw [List.map_append,xqq] at hc2
  rw [xz1 _ _ _ _ (xJi _ _ hth),if_neg]
  ·exact hp.no p (fun c => hc2 (Or.inl c))
  ·intro c
   have c2 : p ∈ pgs [(r.1,n)] := by simpa using c
   exact hc2 (Or.inr ((xv4 (xVj hm) p).1 c2))
def spanOf (l : List (Int × Int × Int × Int)) (i : Int) : Int × Int × Int × Int := (l.find? (fun s => s.1 == i)).getD spanNone
theorem xzm {l : List (Int × Int × Int × Int)} {i : Int} (h : ∃ s ∈ l,s.1 = i) : spanOf l i ∈ l /\ (spanOf l i).1 = i := by
 unfold spanOf
 cases e : l.find? (fun s => s.1 == i) with
 | none =>
  obtain ⟨s,hs,rfl⟩ := h
  have := List.find?_eq_none.1 e s hs
  simp at this
 | some s => exact ⟨List.mem_of_find?_eq_some e,by simpa using List.find?_some e⟩
theorem xJu {h : HeapV} (k : HOk h) {s : Int × Int × Int × Int} (hs : s ∈ h.l) : spanOf h.l s.1 = s := by
 obtain ⟨h1,h2⟩ := xzm ⟨s,hs,rfl⟩
 exact xZb k.ids h1 hs h2
theorem xwt {l : List (Int × Int × Int × Int)} {i : Int} (h : ¬ ∃ s ∈ l,s.1 = i) : spanOf l i = spanNone := by
 unfold spanOf
 rw [List.find?_eq_none.2 (fun s hs => by simpa using fun e => h ⟨s,hs,e⟩)];rfl
theorem HOk.side {h : HeapV} (k : HOk h) {a b : Int × Int × Int × Int} (ha : a ∈ h.l) (hb : b ∈ h.l) (hne : a ≠ b) : a.2.1 + a.2.2.1 <= b.2.1 \/ b.2.1 + b.2.2.1 <= a.2.1 := by
 have h1 := k.start ha
 have h2 := k.start hb
 refine Classical.byContradiction fun hno => hne ?_
 by_cases d : a.2.1 <= b.2.1
 ·exact k.apart ha hb (p := b.2.1) (by omega) (by omega)
 ·exact k.apart ha hb (p := a.2.1) (by omega) (by omega)
def runsOf (l : List (Int × Int × Int × Int)) (J : List Int) : List (Int × Int) := J.map fun i => rnOf (spanOf l i)
theorem xv5 {h : HeapV} {J : List Int} (c : ∀ i ∈ J,∃ s ∈ h.l,s.1 = i) (r : Int × Int) : r ∈ runsOf h.l J -> ∃ s ∈ h.l,s.1 ∈ J /\ r = rnOf s := fun hr => by
 obtain ⟨i,hi,rfl⟩ := List.mem_map.1 hr
 obtain ⟨h1,h2⟩ := xzm (c i hi)
 exact ⟨_,h1,by rw [h2];exact hi,rfl⟩
theorem xv6 {h : HeapV} (k : HOk h) {J : List Int} (c : ∀ i ∈ J,∃ s ∈ h.l,s.1 = i) : ∀ r ∈ runsOf h.l J,fMay r = true := fun r hr => by
 obtain ⟨s,hs,_,rfl⟩ := xv5 c r hr
 exact k.may s hs
theorem yx4 {h : HeapV} (k : HOk h) {J : List Int} (c : ∀ i ∈ J,∃ s ∈ h.l,s.1 = i) : ∀ r ∈ runsOf h.l J,0 <= r.1 /\ 1 <= r.2 := fun r hr => by
 have := (xqd _).1 (xv6 k c r hr)
 omega
theorem xjp {h : HeapV} (k : HOk h) {J : List Int} (c : ∀ i ∈ J,∃ s ∈ h.l,s.1 = i) (p : Int) : Cov (runsOf h.l J) p ↔ ∃ s ∈ h.l,s.1 ∈ J /\ s.2.1 <= p /\ p < s.2.1 + s.2.2.1 := by
 constructor
 ·rintro ⟨r,hr,h1,h2⟩
  obtain ⟨s,hs,hj,rfl⟩ := xv5 c r hr
  exact ⟨s,hs,hj,h1,h2⟩
 ·rintro ⟨s,hs,hj,h1,h2⟩
  exact ⟨rnOf s,List.mem_map.2 ⟨s.1,hj,by rw [xJu k hs]⟩,h1,h2⟩
theorem xzn {l : List (Int × Int × Int × Int)} {J : List Int} (s : Int × Int × Int × Int) : s ∈ hLeft l J ↔ s ∈ l /\ s.1 ∉ J := by
 unfold hLeft
 rw [List.mem_filter]
 simp
theorem xZd {h : HeapV} (k : HOk h) {J : List Int} (c : ∀ i ∈ J,∃ s ∈ h.l,s.1 = i) (p : Int) : Cov ((hLeft h.l J).map rnOf) p ↔ Cov (h.l.map rnOf) p /\ ¬ Cov (runsOf h.l J) p := by
 rw [xjc,xjc,xjp k c]
 constructor
 ·rintro ⟨s,hs,h1,h2⟩
  obtain ⟨h3,h4⟩ := (xzn s).1 hs
  refine ⟨⟨s,h3,h1,h2⟩,?_⟩
  rintro ⟨t,ht,hj,h5,h6⟩
  obtain rfl := k.apart h3 ht ⟨h1,h2⟩ ⟨h5,h6⟩
  exact h4 hj
 ·rintro ⟨⟨s,hs,h1,h2⟩,h3⟩
  exact ⟨s,(xzn s).2 ⟨hs,fun hj => h3 ⟨s,hs,hj,h1,h2⟩⟩,h1,h2⟩
theorem yx5 {h : HeapV} {ids : List Int} (k : HOk h) (hp : Paint ids h) {J : List Int} (c : ∀ i ∈ J,∃ s ∈ h.l,s.1 = i) (id : Int) (g : List Bool) :
  ∃ ids',xPut ids id (runsOf h.l J) true = (ids',0) /\ Paint ids' ⟨h.pages,g,hLeft h.l J,h.last⟩ := by
 have hpl := hp.len
 have hth : (runsOf h.l J).all (xThere ids.length) = true := List.all_eq_true.2 fun r hr => by
  obtain ⟨s,hs,_,rfl⟩ := xv5 c r hr
  have := k.start hs
  unfold xThere
  exact decide_eq_true ⟨by show 1 <= s.2.2.1;omega,by show 0 <= s.2.1;omega,by show s.2.1 < _;omega,by show s.2.2.1 <= _;omega,by show s.2.1 + s.2.2.1 <= _;omega⟩
 have hm := xv4 (yx4 k c)
 have e := xjn ids id (runsOf h.l J) true (fun h => by cases h) hth
 rw [xws ids (pgs (runsOf h.l J)) [] (fun p hq => by
  obtain ⟨s,hs,_,h1,h2⟩ := (xjp k c _).1 ((hm p).1 hq)
  rw [hp.of s hs p h1 h2]
  have := k.idr s hs
  omega),if_pos rfl] at e
 refine ⟨_,e,⟨?_,?_,?_⟩⟩
 ·rw [xxd];exact hpl
 ·intro s hs p p1 p2
  obtain ⟨h3,h4⟩ := (xzn s).1 hs
  rw [xz1 _ _ _ _ (xJi _ _ hth),if_neg]
  ·exact hp.of s h3 p p1 p2
  ·intro hc
   have hc2 : p ∈ pgs (runsOf h.l J) := by simpa using hc
   exact ((xZd k c p).1 ((xjc _ _).2 ⟨s,hs,p1,p2⟩)).2 ((hm p).1 hc2)
 ·intro p hc
  have hc2 : ¬ Cov ((hLeft h.l J).map rnOf) (p : Int) := hc
  rw [xZd k c] at hc2
  rw [xz1 _ _ _ _ (xJi _ _ hth)]
  split
  ·rfl
  ·next hq =>
   have hq2 : ¬ p ∈ pgs (runsOf h.l J) := by simpa using hq
   exact hp.no p fun d => hc2 ⟨d,fun d2 => hq2 ((hm p).2 d2)⟩
theorem yjc {h : HeapV} (k : HOk h) {J : List Int} (hn : J.Nodup) (c : ∀ i ∈ J,∃ s ∈ h.l,s.1 = i) :
  ∃ g,hDrop h J = (⟨h.pages,g,hLeft h.l J,h.last⟩,0) /\ HOk ⟨h.pages,g,hLeft h.l J,h.last⟩ /\ fPut h.free (runsOf h.l J) true = (g,0) := by
 obtain ⟨g,e,k2⟩ := xzl k ⟨hn,c⟩
 have hd : Disj (runsOf h.l J) := by
  unfold Disj runsOf
  rw [List.pairwise_map]
  refine List.Pairwise.imp_of_mem (R := fun a b => a ≠ b) ?_ hn
  intro a b ha hb hab
  obtain ⟨h1,h2⟩ := xzm (c a ha)
  obtain ⟨h3,h4⟩ := xzm (c b hb)
  exact k.side h1 h3 fun e => hab (by rw [<- h2,<- h4,e])
 have hc : CanPut true h.free (runsOf h.l J) := ⟨hd,fun p hp => by
  intro e
  obtain ⟨s,hs,_,h1,h2⟩ := (xjp k c _).1 hp
  exact ((k.free p).1 e).2 ((xjc _ _).2 ⟨s,hs,h1,h2⟩)⟩
 obtain ⟨g2,e2,hl2,hq⟩ := xjo k.fl (xv6 k c) hc
 refine ⟨g,e,k2,?_⟩
 rw [e2]
 congr 1
 refine yq1 (by have := k2.fl;simp only at this;omega) fun p => ?_
 have h1 := k2.free p
 simp only at h1
 rw [xZd k c] at h1
 by_cases d : Cov (runsOf h.l J) (p : Int)
 ·rw [(hq p).1 d]
  refine (h1.2 ⟨?_,fun x => x.2 d⟩).symm
  obtain ⟨s,hs,_,h3,h4⟩ := (xjp k c _).1 d
  have := k.start hs
  omega
 ·rw [(hq p).2 d]
  have h2 := k.free p
  cases e3 : h.free.getD p false with
  | true =>
   have := h2.1 e3
   exact (h1.2 ⟨this.1,fun x => this.2 x.1⟩).symm
  | false =>
   cases e4 : g.getD p false with
   | true =>
    have := h1.1 e4
    have := h2.2 ⟨this.1,fun x => this.2 ⟨x,d⟩⟩
    rw [e3] at this;cases this
   | false => rfl
theorem yq4 {h : HeapV} {ids : List Int} (k : HOk h) (hp : Paint ids h) (q : Int) (hq : 0 <= q) :
  (∃ s ∈ h.l,xOf ids q = s.1 /\ s.2.1 <= q /\ q < s.2.1 + s.2.2.1) \/ (xOf ids q = 0 /\ ∀ s ∈ h.l,¬ (s.2.1 <= q /\ q < s.2.1 + s.2.2.1)) := by
 have hpl := hp.len
 by_cases c : ∃ s ∈ h.l,s.2.1 <= q /\ q < s.2.1 + s.2.2.1
 ·obtain ⟨s,hs,h1,h2⟩ := c
  have := k.start hs
  refine Or.inl ⟨s,hs,?_,h1,h2⟩
  unfold xOf
  rw [if_pos (by omega)]
  exact hp.of s hs q.toNat (by omega) (by omega)
 ·refine Or.inr ⟨?_,fun s hs d => c ⟨s,hs,d⟩⟩
  unfold xOf
  split
  ·next hh =>
   refine hp.no q.toNat fun d => c ?_
   obtain ⟨s,hs,h1,h2⟩ := (xjc _ _).1 d
   exact ⟨s,hs,by omega,by omega⟩
  ·rfl
end Go.Proofs.YtlcdgmjinhbncaaGreat
