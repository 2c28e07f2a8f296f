/- A fleet: what moves while it settles, and how; what settling leaves. -/
import Derived.Test.YtigokanoflkinabGreatDoorRows
namespace Go.Proofs.YtigokanoflkinabGreatDoor.Por
set_option linter.unusedVariables false
def sumI (f:Nat→Int):Nat→Int
  | 0=>0
  | n+1=>sumI f n+f n
theorem jAs {f g:Nat→Int}{n:Nat}(h:∀ i,i<n→f i=g i):sumI f n=sumI g n:=by
 induction n with
 | zero=>rfl
 | succ n ih=>simp only[sumI];rw[ih (fun i hi=>h i (by omega)),h n (by omega)]
theorem jEZ {f g:Nat→Int}{n:Nat}(h:∀ i,i<n→f i≤g i):sumI f n≤sumI g n:=by
 induction n with
 | zero=>exact Int.le_refl _
 | succ n ih=>simp only[sumI];have:=ih (fun i hi=>h i (by omega));have:=h n (by omega);omega
theorem jAq {f:Nat→Int}{n:Nat}(h:∀ i,i<n→f i=0):sumI f n=0:=by
 induction n with
 | zero=>rfl
 | succ n ih=>simp only[sumI];rw[ih (fun i hi=>h i (by omega)),h n (by omega)];rfl
theorem jAL {f:Nat→Int}{n:Nat}(h:∀ i,i<n→0≤f i):0≤sumI f n:=by
 have:=jEZ (f:=fun _=>0) h
 rwa [jAq (fun i _=>rfl)] at this
theorem jHC (f g:Nat→Int)(n:Nat):sumI (fun i=>f i+g i) n=sumI f n+sumI g n:=by
 induction n with
 | zero=>rfl
 | succ n ih=>simp only[sumI];rw[ih];omega
theorem jHF (c:Int)(f:Nat→Int)(n:Nat):sumI (fun i=>c*f i) n=c*sumI f n:=by
 induction n with
 | zero=>simp[sumI]
 | succ n ih=>simp only[sumI];rw[ih,Int.mul_add]
theorem jBT {f g:Nat→Int}{n i:Nat}(hi:i<n)(h:∀ j,j<n→j≠i→f j=g j):sumI f n=sumI g n+(f i - g i):=by
 induction n with
 | zero=>omega
 | succ n ih=>
  simp only[sumI];by_cases e:i=n
  ·subst e;rw[jAs (fun j hj=>h j (by omega) (by omega))];omega
  ·rw[ih (by omega) (fun j hj hne=>h j (by omega) hne),h n (by omega) (fun e2=>e e2.symm)];omega
theorem jCB {f:Nat→Int}{n i:Nat}(h:∀ j,j<n→0≤f j)(hi:i<n):f i≤sumI f n:=by
 induction n with
 | zero=>omega
 | succ n ih=>
  simp only[sumI];by_cases e:i=n
  ·subst e;have:=jAL (fun j hj=>h j (Nat.lt_succ_of_lt hj));omega
  ·have:=ih (fun j hj=>h j (by omega)) (by omega);have:=h n (by omega);omega
theorem jBO {f:Nat→Int}{n:Nat}{B:Int}(h:∀ i,i<n→f i≤B):sumI f n≤n*B:=by
 induction n with
 | zero=>simp[sumI]
 | succ n ih=>have h1:=ih (fun i hi=>h i (by omega));have h2:=h n (by omega);(have e:((n+1:Nat):Int)*B=n*B+B:=by rw[Int.natCast_add,Int.add_mul];simp);simp only[sumI];rw[e];omega
theorem jJZ (f:Nat→Nat→Int)(n m:Nat):sumI (fun i=>sumI (f i) m) n=sumI (fun j=>sumI (fun i=>f i j) n) m:=by
 induction n with
 | zero=>simp only[sumI];exact (jAq (fun _ _=>rfl)).symm
 | succ n ih=>simp only[sumI];rw[ih,← jHC]
def updI (f:Nat→Int)(i:Nat)(x:Int):Nat→Int:=fun j=>if j=i then x else f j
theorem jAS (f:Nat→Int)(i:Nat)(x:Int):updI f i x i=x:=if_pos rfl
theorem jAK (f:Nat→Int){i j:Nat}(x:Int)(h:j≠i):updI f i x j=f j:=if_neg h
def upd2 (f:Nat→Nat→Int)(i k:Nat)(x:Int):Nat→Nat→Int:=fun j l=>if j=i∧l=k then x else f j l
theorem jDB (f:Nat→Nat→Int)(i k:Nat)(x:Int):upd2 f i k x i k=x:=if_pos ⟨rfl,rfl⟩
theorem jFU (f:Nat→Nat→Int){i j:Nat}(k:Nat)(x:Int)(h:j≠i):upd2 f i k x j=f j:=funext fun l=>if_neg (fun h5=>h h5.1)
theorem jFa (f:Nat→Nat→Int)(i j:Nat){k l:Nat}(x:Int)(h:l≠k):upd2 f i k x j l=f j l:=if_neg (fun h5=>h h5.2)
theorem jEQ (f:Nat→Nat→Int){i j k l:Nat}(x:Int)(h:¬ (j=i∧l=k)):upd2 f i k x j l=f j l:=if_neg h
structure FC where
  mt:Nat→Bool
  ms:Nat→Nat→Int
  ud:Nat→Nat→Int
  uw:Nat→Int
  uc:Nat→Int
  pool:Nat→Int
  goal:Nat→Int
structure FM where
  wait:Nat→Int
  on:Nat→Nat→Int
  rev:Nat→Int
def runs (s:FM)(u:Nat):Int:=sumI (s.on u) 8
def room (c:FC)(s:FM)(m r:Nat):Int:=c.ms m r - sumI (fun u=>c.ud u r*s.on u m) 6
def bearsB (a b:Nat→Int):Nat→Bool
  | 0=>true
  | k+1=>bearsB a b k && decide (b k≤a k)
theorem jA8 {a b:Nat→Int}:∀ {k},bearsB a b k=true↔∀ r,r<k→b r≤a r:=by
 intro k
 induction k with
 | zero=>simp[bearsB]
 | succ k ih=>
  simp only[bearsB,Bool.and_eq_true,ih,decide_eq_true_eq];constructor
  ·intro h r hr;by_cases e:r=k
   ·subst e;exact h.2
   ·exact h.1 r (by omega)
  ·exact fun h=>⟨fun r hr=>h r (by omega),h k (by omega)⟩
def fitsB (c:FC)(s:FM)(u m:Nat):Bool:=c.mt m && bearsB (room c s m) (c.ud u) 4
def tightF (c:FC)(s:FM)(u:Nat):Nat→Nat×Int×Bool
  | 0=>(0,0,false)
  | k+1=>let x:=tightF c s u k
             if fitsB c s u k then (if !x.2.2 || decide (sumI (room c s k) 4<x.2.1) then (k,sumI (room c s k) 4,true) else x) else x
def tight (c:FC)(s:FM)(u:Nat):Nat×Bool:=((tightF c s u 8).1,(tightF c s u 8).2.2)
theorem jEd (c:FC)(s:FM)(u:Nat):∀ k,((tightF c s u k).2.2=true→(tightF c s u k).1<k∧fitsB c s u (tightF c s u k).1=true)∧((tightF c s u k).2.2=false→∀ m,m<k→fitsB c s u m=false):=by
 intro k
 induction k with
 | zero=>exact ⟨fun h=>(by cases h),fun _ m hm=>by omega⟩
 | succ k ih=>
  simp only[tightF]
  cases hf:fitsB c s u k with
  | false=>
   simp only[Bool.false_eq_true,if_false];refine ⟨fun h=>⟨by have:=(ih.1 h).1;omega,(ih.1 h).2⟩,fun h m hm=>?_⟩;by_cases e:m=k
   ·subst e;exact hf
   ·exact ih.2 h m (by omega)
  | true=>
   simp only[if_true]
   cases hx:(!(tightF c s u k).2.2 || decide (sumI (room c s k) 4<(tightF c s u k).2.1)) with
   | true=>simp only[if_true];exact ⟨fun _=>⟨by omega,hf⟩,fun h=>by cases h⟩
   | false=>
    simp only[Bool.false_eq_true,if_false]
    have h2:(tightF c s u k).2.2=true:=by
     cases h3:(tightF c s u k).2.2 with
     | true=>rfl
     | false=>rw[h3] at hx;cases hx
    refine ⟨fun h=>⟨by have:=(ih.1 h).1;omega,(ih.1 h).2⟩,fun h=>by rw[h2] at h;cases h⟩
theorem jC6 {c:FC}{s:FM}{u:Nat}(h:(tight c s u).2=true):(tight c s u).1<8∧fitsB c s u (tight c s u).1=true:=(jEd c s u 8).1 h
theorem jKH {c:FC}{s:FM}{u:Nat}(h:(tight c s u).2=false){m:Nat}(hm:m<8):fitsB c s u m=false:=(jEd c s u 8).2 h m hm
def startF (s:FM)(u m:Nat):FM:=⟨updI s.wait u (s.wait u - 1),upd2 s.on u m (s.on u m+1),s.rev⟩
def wayF (s:FM)(u m:Nat):FM:=⟨updI s.wait u (s.wait u+1),upd2 s.on u m (s.on u m - 1),updI s.rev u (s.rev u+1)⟩
def belowB (a b:Int×Int):Bool:=decide (a.1*b.2<b.1*a.2)
def partF (c:FC)(u:Nat):Nat→Int×Int
  | 0=>(0,1)
  | k+1=>if decide (0<c.ud u k) && belowB (partF c u k) (c.ud u k,c.pool k) then (c.ud u k,c.pool k) else partF c u k
def levF (c:FC)(u:Nat)(t:Int):Int×Int:=if t=0 then (0,1) else ((partF c u 4).1*t,(partF c u 4).2*c.uw u)
def openB (c:FC)(s:FM)(u:Nat):Bool:=!(decide (s.wait u<1) || decide (c.uc u≤runs s u)) && (tight c s u).2
def nextF (c:FC)(s:FM):Nat→Nat×(Int×Int)×Bool
  | 0=>(0,(0,0),false)
  | k+1=>let x:=nextF c s k
             if openB c s k then (if !x.2.2 || belowB (levF c k (runs s k)) x.2.1 then (k,levF c k (runs s k),true) else x) else x
theorem jDN (c:FC)(s:FM):∀ k,((nextF c s k).2.2=true→(nextF c s k).1<k∧openB c s (nextF c s k).1=true)∧((nextF c s k).2.2=false→∀ m,m<k→openB c s m=false):=by
 intro k
 induction k with
 | zero=>exact ⟨fun h=>(by cases h),fun _ m hm=>by omega⟩
 | succ k ih=>
  simp only[nextF]
  cases hf:openB c s k with
  | false=>
   simp only[Bool.false_eq_true,if_false];refine ⟨fun h=>⟨by have:=(ih.1 h).1;omega,(ih.1 h).2⟩,fun h m hm=>?_⟩;by_cases e:m=k
   ·subst e;exact hf
   ·exact ih.2 h m (by omega)
  | true=>
   simp only[if_true]
   cases hx:(!(nextF c s k).2.2 || belowB (levF c k (runs s k)) (nextF c s k).2.1) with
   | true=>simp only[if_true];exact ⟨fun _=>⟨by omega,hf⟩,fun h=>by cases h⟩
   | false=>
    simp only[Bool.false_eq_true,if_false]
    have h2:(nextF c s k).2.2=true:=by
     cases h3:(nextF c s k).2.2 with
     | true=>rfl
     | false=>rw[h3] at hx;cases hx
    refine ⟨fun h=>⟨by have:=(ih.1 h).1;omega,(ih.1 h).2⟩,fun h=>by rw[h2] at h;cases h⟩
def fillF (c:FC)(s:FM):Option FM:=if (nextF c s 6).2.2 then some (startF s (nextF c s 6).1 (tight c s (nextF c s 6).1).1) else none
structure FK where
  rm:Nat→Int
  here:Nat→Int
  run:Nat→Int
  off:List Nat
def kBeg (c:FC)(s:FM)(m:Nat):FK:=⟨room c s m,fun u=>s.on u m,runs s,[]⟩
def spareB (c:FC)(u:Nat)(k:FK)(j:Nat):Bool:=!(decide (j=u) || decide (k.here j<1) || decide (k.run j≤c.goal j))
def offF (c:FC)(u:Nat)(k:FK):Nat→Nat×(Int×Int)×Bool
  | 0=>(0,(0,0),false)
  | j+1=>let x:=offF c u k j
             if spareB c u k j then (if !x.2.2 || belowB x.2.1 (levF c j (k.run j)) then (j,levF c j (k.run j),true) else x) else x
theorem jFv (c:FC)(u:Nat)(k:FK):∀ n,((offF c u k n).2.2=true→(offF c u k n).1<n∧spareB c u k (offF c u k n).1=true)∧((offF c u k n).2.2=false→∀ m,m<n→spareB c u k m=false):=by
 intro n
 induction n with
 | zero=>exact ⟨fun h=>(by cases h),fun _ m hm=>by omega⟩
 | succ n ih=>
  simp only[offF]
  cases hf:spareB c u k n with
  | false=>
   simp only[Bool.false_eq_true,if_false];refine ⟨fun h=>⟨by have:=(ih.1 h).1;omega,(ih.1 h).2⟩,fun h m hm=>?_⟩;by_cases e:m=n
   ·subst e;exact hf
   ·exact ih.2 h m (by omega)
  | true=>
   simp only[if_true]
   cases hx:(!(offF c u k n).2.2 || belowB (offF c u k n).2.1 (levF c n (k.run n))) with
   | true=>simp only[if_true];exact ⟨fun _=>⟨by omega,hf⟩,fun h=>by cases h⟩
   | false=>
    simp only[Bool.false_eq_true,if_false]
    have h2:(offF c u k n).2.2=true:=by
     cases h3:(offF c u k n).2.2 with
     | true=>rfl
     | false=>rw[h3] at hx;cases hx
    refine ⟨fun h=>⟨by have:=(ih.1 h).1;omega,(ih.1 h).2⟩,fun h=>by rw[h2] at h;cases h⟩
def kOff (c:FC)(k:FK)(j:Nat):FK:=⟨fun r=>k.rm r+c.ud j r,updI k.here j (k.here j - 1),updI k.run j (k.run j - 1),k.off ++ [j]⟩
def kStep (c:FC)(u:Nat)(k:FK):Option FK:=if bearsB k.rm (c.ud u) 4 then none else if (offF c u k 6).2.2 then some (kOff c k (offF c u k 6).1) else none
def backF (c:FC)(u:Nat):List Nat→(Nat→Int)→List Nat
  | [],_=>[]
  | j :: l,rm=>if bearsB (fun r=>rm r - c.ud j r) (c.ud u) 4 then backF c u l (fun r=>rm r - c.ud j r) else j :: backF c u l rm
inductive Iter {α:Type} (f:α→Option α):α→α→Prop
  | done {s:α} (h:f s=none):Iter f s s
  | step {s t z:α} (h:f s=some t) (i:Iter f t z):Iter f s z
theorem Iter.det {α:Type}{f:α→Option α}{s a b:α}(h:Iter f s a)(k:Iter f s b):a=b:=by
 induction h with
 | done h=>
  cases k with
  | done _=>rfl
  | step h2 _=>rw[h] at h2;cases h2
 | step h i ih=>
  cases k with
  | done h2=>rw[h] at h2;cases h2
  | step h2 j=>rw[h] at h2;cases h2;exact ih j
theorem Iter.last {α:Type}{f:α→Option α}{s a:α}(h:Iter f s a):f a=none:=by
 induction h with
 | done h=>exact h
 | step _ _ ih=>exact ih
theorem Iter.inv {α:Type}{f:α→Option α}{P:α→Prop}(hP:∀ s t,P s→f s=some t→P t){s a:α}(h:Iter f s a)(h0:P s):P a:=by
 induction h with
 | done _=>exact h0
 | step h _ ih=>exact ih (hP _ _ h0 h)
theorem Iter.rel {α:Type}{f:α→Option α}{R:α→α→Prop}(hr:∀ s,R s s)(ht:∀ s t z,f s=some t→R t z→R s z){s a:α}(h:Iter f s a):R s a:=by
 induction h with
 | done _=>exact hr _
 | step h _ ih=>exact ht _ _ _ h ih
theorem Iter.ends {α:Type}{f:α→Option α}{P:α→Prop}(hP:∀ s t,P s→f s=some t→P t)(μ:α→Nat)(hμ:∀ s t,P s→f s=some t→μ t < μ s):∀ n s,μ s≤n→P s→∃ a,Iter f s a:=by
 intro n
 induction n with
 | zero=>
  intro s hs h0
  cases e:f s with
  | none=>exact ⟨s,.done e⟩
  | some t=>have:=hμ s t h0 e;omega
 | succ n ih=>
  intro s hs h0
  cases e:f s with
  | none=>exact ⟨s,.done e⟩
  | some t=>obtain ⟨a,h⟩:=ih t (by have:=hμ s t h0 e;omega) (hP s t h0 e);exact ⟨a,.step e h⟩
theorem Iter.part {α:Type}{f:α→Option α}{s a z:α}(h:Iter f s z)(hs:f s=some a):Iter f a z:=by
 cases h with
 | done h2=>rw[hs] at h2;cases h2
 | step h2 j=>rw[hs] at h2;cases h2;exact j
def kRun (c:FC)(u:Nat):Nat→FK→FK
  | 0,k=>k
  | n+1,k=>match kStep c u k with
    | none=>k
    | some k'=>kRun c u n k'
def kEnd (c:FC)(u:Nat)(k:FK):FK:=kRun c u (sumI k.here 6).toNat k
theorem jDb {c:FC}{u:Nat}{k k':FK}(h:kStep c u k=some k'):∃ j,j<6∧j≠u∧1≤k.here j∧c.goal j<k.run j∧k'=kOff c k j∧bearsB k.rm (c.ud u) 4=false:=by
 unfold kStep at h
 cases hb:bearsB k.rm (c.ud u) 4 with
 | true=>rw[hb] at h;simp at h
 | false=>
  rw[hb] at h;simp only[Bool.false_eq_true,if_false] at h
  cases ho:(offF c u k 6).2.2 with
  | false=>rw[ho] at h;simp at h
  | true=>rw[ho] at h;simp only[if_true,Option.some.injEq] at h;obtain ⟨h1,h2⟩:=(jFv c u k 6).1 ho;unfold spareB at h2;simp only[Bool.not_eq_true',Bool.or_eq_false_iff,decide_eq_false_iff_not] at h2;exact ⟨_,h1,h2.1.1,by omega,by omega,h.symm,rfl⟩
theorem jDd {c:FC}{u:Nat}{k k':FK}(h:kStep c u k=some k'):sumI k'.here 6=sumI k.here 6 - 1:=by
 obtain ⟨j,hj,_,_,_,rfl,_⟩:=jDb h;have:=jBT (f:=(kOff c k j).here) (g:=k.here) hj (fun i _ hne=>jAK _ _ hne);rw[this];show sumI k.here 6+(updI k.here j (k.here j - 1) j - k.here j)=_;rw[jAS];omega
theorem jBp {c:FC}{u:Nat}{k k':FK}(h:kStep c u k=some k')(h0:∀ j,j<6→0≤k.here j):∀ j,j<6→0≤k'.here j:=by
 obtain ⟨i,hi,_,h1,_,rfl,_⟩:=jDb h;intro j hj;show 0≤updI k.here i (k.here i - 1) j;by_cases e:j=i
 ·subst e;rw[jAS];omega
 ·rw[jAK _ _ e];exact h0 j hj
theorem jIY {c:FC}{u:Nat}:∀ n k,(sumI k.here 6).toNat≤n→(∀ j,j<6→0≤k.here j)→Iter (kStep c u) k (kRun c u n k):=by
 intro n
 induction n with
 | zero=>
  intro k hn h0;have h1:=jAL h0
  cases e:kStep c u k with
  | none=>exact .done e
  | some k'=>have h2:=jDd e;have h3:=jAL (jBp e h0);omega
 | succ n ih=>
  intro k hn h0;simp only[kRun]
  cases e:kStep c u k with
  | none=>exact .done e
  | some k'=>have h2:=jDd e;have h1:=jAL h0;exact .step e (ih k' (by omega) (jBp e h0))
theorem jFn {c:FC}{u:Nat}{k:FK}(h0:∀ j,j<6→0≤k.here j):Iter (kStep c u) k (kEnd c u k):=jIY _ k (Nat.le_refl _) h0
def clearF (c:FC)(s:FM)(u m:Nat):Option (List Nat):=let k:=kEnd c u (kBeg c s m)
  if bearsB k.rm (c.ud u) 4 then some (backF c u k.off k.rm) else none
def chooseF (c:FC)(s:FM)(u:Nat):Nat→Nat×List Nat×Bool
  | 0=>(0,[],false)
  | m+1=>let x:=chooseF c s u m
             if c.mt m then (match clearF c s u m with
               | none=>x
               | some l=>if !x.2.2 || decide (l.length<x.2.1.length) then (m,l,true) else x) else x
def waysF (s:FM)(m:Nat):List Nat→FM
  | []=>s
  | j :: l=>waysF (wayF s j m) m l
def placeF (c:FC)(s:FM)(u:Nat):Option FM:=
  if (tight c s u).2 then some (startF s u (tight c s u).1)
  else let x:=chooseF c s u 8
       if x.2.2 then some (startF (waysF s x.1 x.2.1) u x.1) else none
def oneF (c:FC)(s:FM):Nat→Nat→Option FM
  | _,0=>none
  | i,n+1=>if decide (c.goal i≤runs s i) then oneF c s (i+1) n else match placeF c s i with
    | some t=>some t
    | none=>oneF c s (i+1) n
def goalF (c:FC)(s:FM):Option FM:=oneF c s 0 6
inductive Outer (c:FC):FM→FM→Prop
  | done {s:FM} (h:goalF c s=none):Outer c s s
  | more {s t v x z:FM} (h:goalF c s=some t) (i:Iter (goalF c) t v) (j:Iter (fillF c) v x) (k:Outer c x z):Outer c s z
def Settles (c:FC)(s z:FM):Prop:=∃ v x,Iter (goalF c) s v∧Iter (fillF c) v x∧Outer c x z
theorem Outer.det {c:FC}{s a:FM}(h:Outer c s a):∀ b,Outer c s b→a=b:=by
 induction h with
 | done h=>
  intro b k
  cases k with
  | done _=>rfl
  | more h2 _ _ _=>rw[h] at h2;cases h2
 | more h i j _ ih=>
  intro b k
  cases k with
  | done h2=>rw[h] at h2;cases h2
  | more h2 i2 j2 k2=>rw[h] at h2;cases h2;have:=i.det i2;subst this;have:=j.det j2;subst this;exact ih b k2
theorem Settles.det {c:FC}{s a b:FM}(h:Settles c s a)(k:Settles c s b):a=b:=by
 obtain ⟨v,x,h1,h2,h3⟩:=h;obtain ⟨v',x',k1,k2,k3⟩:=k;have:=h1.det k1;subst this;have:=h2.det k2;subst this;exact h3.det _ k3
structure FOk (c:FC):Prop where
  ud:∀ u,u<6→∀ r,r<4→0≤c.ud u r
  goal:∀ u,u<6→0≤c.goal u
structure FInv (c:FC)(s:FM):Prop where
  on:∀ u,u<6→∀ m,m<8→0≤s.on u m
  wait:∀ u,u<6→0≤s.wait u
  room:∀ m,m<8→∀ r,r<4→0≤room c s m r
  goal:∀ u,u<6→c.goal u≤s.wait u+runs s u
  gone:∀ m,m<8→c.mt m=false→∀ u,u<6→s.on u m=0
theorem jDc {s:FM}{u m:Nat}(hm:m<8)(j:Nat):runs (startF s u m) j=if j=u then runs s u+1 else runs s j:=by
 by_cases e:j=u
 ·subst e;rw[if_pos rfl];have:=jBT (f:=(startF s j m).on j) (g:=s.on j) hm (fun i _ hne=>jFa _ _ _ _ hne);show sumI ((startF s j m).on j) 8=_;rw[this];show sumI (s.on j) 8+(upd2 s.on j m (s.on j m+1) j m - s.on j m)=sumI (s.on j) 8+1;rw[jDB];omega
 ·rw[if_neg e];show sumI (upd2 s.on u m (s.on u m+1) j) 8=_;rw[jFU _ _ _ e];rfl
theorem jHM {s:FM}{u m:Nat}(hm:m<8)(j:Nat):runs (wayF s u m) j=if j=u then runs s u - 1 else runs s j:=by
 by_cases e:j=u
 ·subst e;rw[if_pos rfl];have:=jBT (f:=(wayF s j m).on j) (g:=s.on j) hm (fun i _ hne=>jFa _ _ _ _ hne);show sumI ((wayF s j m).on j) 8=_;rw[this];show sumI (s.on j) 8+(upd2 s.on j m (s.on j m - 1) j m - s.on j m)=sumI (s.on j) 8 - 1;rw[jDB];omega
 ·rw[if_neg e];show sumI (upd2 s.on u m (s.on u m - 1) j) 8=_;rw[jFU _ _ _ e];rfl
theorem jHJ {c:FC}{s t:FM}{u m:Nat}(hu:u<6){x:Int}(ht:t.on=upd2 s.on u m x)(l r:Nat):room c t l r=if l=m then room c s m r - c.ud u r*(x - s.on u m) else room c s l r:=by
 unfold room;rw[ht];by_cases e:l=m
 ·subst e;rw[if_pos rfl];have:=jBT (f:=fun i=>c.ud i r*upd2 s.on u l x i l) (g:=fun i=>c.ud i r*s.on i l) hu (fun i _ hne=>by show _ * _=_;rw[jFU _ _ _ hne]);rw[this];simp only[jDB];rw[Int.mul_sub];omega
 ·rw[if_neg e];rw[jAs (g:=fun u=>c.ud u r*s.on u l) (fun i _=>by show _ * _=_;rw[jFa _ _ _ _ e])]
theorem jIN {c:FC}{s:FM}{u m:Nat}(hu:u<6)(l r:Nat):room c (startF s u m) l r=if l=m then room c s m r - c.ud u r else room c s l r:=by
 rw[jHJ (s:=s) hu (t:=startF s u m) rfl l r];split
 ·rw[show s.on u m+1 - s.on u m=1 by omega,Int.mul_one]
 ·rfl
theorem jHU {c:FC}{s:FM}{u m:Nat}(hu:u<6)(l r:Nat):room c (wayF s u m) l r=if l=m then room c s m r+c.ud u r else room c s l r:=by
 rw[jHJ (s:=s) hu (t:=wayF s u m) rfl l r];split
 ·rw[show s.on u m - 1 - s.on u m = -1 by omega,Int.mul_neg,Int.mul_one];omega
 ·rfl
theorem jDv {c:FC}{s:FM}{u m:Nat}:fitsB c s u m=true↔c.mt m=true∧∀ r,r<4→c.ud u r≤room c s m r:=by
 unfold fitsB;rw[Bool.and_eq_true,jA8]
theorem FInv.start {c:FC}{s:FM}{u m:Nat}(h:FInv c s)(hu:u<6)(hm:m<8)(hf:fitsB c s u m=true)(hw:0<s.wait u):FInv c (startF s u m):=by
 obtain ⟨ht,hr⟩:=jDv.1 hf;refine ⟨fun v hv l hl=>?_,fun v hv=>?_,fun l hl r hr'=>?_,fun v hv=>?_,fun l hl hg v hv=>?_⟩
 ·show 0≤upd2 s.on u m (s.on u m+1) v l;unfold upd2;split
  ·have:=h.on u hu m hm;omega
  ·exact h.on v hv l hl
 ·show 0≤updI s.wait u (s.wait u - 1) v;unfold updI;split
  ·omega
  ·exact h.wait v hv
 ·rw[jIN hu];split
  ·have:=hr r hr';omega
  ·exact h.room l hl r hr'
 ·rw[jDc hm];show c.goal v≤updI s.wait u (s.wait u - 1) v + _;by_cases e:v=u
  ·subst e;rw[if_pos rfl,jAS];have:=h.goal v hv;omega
  ·rw[if_neg e,jAK _ _ e];exact h.goal v hv
 ·show upd2 s.on u m (s.on u m+1) v l=0;rw[jEQ _ _ (fun h5=>by rw[h5.2,ht] at hg;cases hg)];exact h.gone l hl hg v hv
theorem FInv.way {c:FC}{s:FM}(ho:FOk c){u m:Nat}(h:FInv c s)(hu:u<6)(hm:m<8)(hn:0<s.on u m):FInv c (wayF s u m):=by
 refine ⟨fun v hv l hl=>?_,fun v hv=>?_,fun l hl r hr'=>?_,fun v hv=>?_,fun l hl hg v hv=>?_⟩
 ·show 0≤upd2 s.on u m (s.on u m - 1) v l;unfold upd2;split
  ·omega
  ·exact h.on v hv l hl
 ·show 0≤updI s.wait u (s.wait u+1) v;unfold updI;split
  ·have:=h.wait u hu;omega
  ·exact h.wait v hv
 ·rw[jHU hu];split
  ·rename_i e;subst e;have:=h.room l hl r hr';have:=ho.ud u hu r hr';omega
  ·exact h.room l hl r hr'
 ·rw[jHM hm];show c.goal v≤updI s.wait u (s.wait u+1) v + _;by_cases e:v=u
  ·subst e;rw[if_pos rfl,jAS];have:=h.goal v hv;omega
  ·rw[if_neg e,jAK _ _ e];exact h.goal v hv
 ·show upd2 s.on u m (s.on u m - 1) v l=0;rw[jEQ _ _ (fun h5=>by have:=h.gone l hl hg v hv;rw[h5.1,h5.2] at this;omega)];exact h.gone l hl hg v hv
def demL (c:FC)(r:Nat):List Nat→Int
  | []=>0
  | j :: l=>c.ud j r+demL c r l
theorem jJ3 (c:FC)(r:Nat)(l m:List Nat):demL c r (l ++ m)=demL c r l+demL c r m:=by
 induction l with
 | nil=>simp[demL]
 | cons j l ih=>simp only[List.cons_append,demL];rw[ih];omega
def cntL (j:Nat)(l:List Nat):Int:=(l.count j:Int)
structure KInv (c:FC)(s:FM)(u m:Nat)(k:FK):Prop where
  here:∀ j,j<6→k.here j=s.on j m - cntL j k.off
  here0:∀ j,j<6→0≤k.here j
  run:∀ j,j<6→k.run j=runs s j - cntL j k.off
  keep:∀ j,j∈k.off→j<6∧j≠u∧c.goal j≤k.run j
  rm:∀ r,k.rm r=room c s m r+demL c r k.off
theorem jHY (i j:Nat)(l:List Nat):cntL i (l ++ [j])=cntL i l+if i=j then 1 else 0:=by
 unfold cntL;rw[List.count_append,List.count_singleton];by_cases e:i=j
 ·subst e;simp
 ·rw[if_neg e];(have:(j == i)=false:=by simp;exact fun h=>e h.symm);rw[this];simp
theorem KInv.beg {c:FC}{s:FM}{u m:Nat}(h:FInv c s)(hm:m<8):KInv c s u m (kBeg c s m):=by
 refine ⟨fun j hj=>?_,fun j hj=>h.on j hj m hm,fun j hj=>?_,fun j hj=>(by cases hj),fun r=>?_⟩
 ·show s.on j m=s.on j m - ((List.count j []:Nat):Int);simp
 ·show runs s j=runs s j - ((List.count j []:Nat):Int);simp
 ·show room c s m r=room c s m r+0;omega
theorem KInv.step {c:FC}{s:FM}{u m:Nat}{k k':FK}(h:KInv c s u m k)(hk:kStep c u k=some k'):KInv c s u m k':=by
 obtain ⟨i,hi,hne,h1,h2,rfl,_⟩:=jDb hk;refine ⟨fun j hj=>?_,jBp hk h.here0,fun j hj=>?_,fun j hj=>?_,fun r=>?_⟩
 ·show updI k.here i (k.here i - 1) j=s.on j m - cntL j (k.off ++ [i]);rw[jHY];have:=h.here j hj;by_cases e:j=i
  ·subst e;rw[jAS,if_pos rfl];omega
  ·rw[jAK _ _ e,if_neg e];omega
 ·show updI k.run i (k.run i - 1) j=runs s j - cntL j (k.off ++ [i]);rw[jHY];have:=h.run j hj;by_cases e:j=i
  ·subst e;rw[jAS,if_pos rfl];omega
  ·rw[jAK _ _ e,if_neg e];omega
 ·have hj':j∈k.off∨j=i:=by
   have:j∈k.off ++ [i]:=hj
   simpa using this
  show j<6∧j≠u∧c.goal j≤updI k.run i (k.run i - 1) j;by_cases e:j=i
  ·subst e;rw[jAS];exact ⟨hi,hne,by omega⟩
  ·rw[jAK _ _ e];rcases hj' with h5 | h5
   ·exact h.keep j h5
   ·exact absurd h5 e
 ·show k.rm r+c.ud i r=room c s m r+demL c r (k.off ++ [i]);rw[jJ3,h.rm r];simp only[demL];omega
theorem KInv.fin {c:FC}{s:FM}{u m:Nat}(h:FInv c s)(hm:m<8):KInv c s u m (kEnd c u (kBeg c s m))∧kStep c u (kEnd c u (kBeg c s m))=none:=by
 have hi:=jFn (c:=c) (u:=u) (k:=kBeg c s m) (fun j hj=>h.on j hj m hm);exact ⟨hi.inv (P:=KInv c s u m) (fun _ _ h1 h2=>h1.step h2) (KInv.beg h hm),hi.last⟩
theorem jKM {c:FC}{u:Nat}:∀ (l:List Nat) (rm:Nat→Int),(backF c u l rm).Sublist l:=by
 intro l
 induction l with
 | nil=>intro rm;exact List.Sublist.refl _
 | cons j l ih=>
  intro rm;simp only[backF];split
  ·exact (ih _).cons j
  ·exact (ih _).cons_cons j
theorem jHi {c:FC}{u:Nat}:∀ (l:List Nat) (rm:Nat→Int),(∀ r,r<4→c.ud u r≤rm r)→∀ r,r<4→c.ud u r≤rm r - demL c r l+demL c r (backF c u l rm):=by
 intro l
 induction l with
 | nil=>intro rm h r hr;simp only[demL,backF];have:=h r hr;omega
 | cons j l ih=>
  intro rm h r hr;simp only[backF]
  cases hb:bearsB (fun r=>rm r - c.ud j r) (c.ud u) 4 with
  | true=>simp only[if_true];have h1:=ih (fun r=>rm r - c.ud j r) (jA8.1 hb) r hr;simp only[demL];omega
  | false=>simp only[Bool.false_eq_true,if_false];have h1:=ih rm h r hr;simp only[demL];omega
structure Cleared (c:FC)(s:FM)(u m:Nat)(l:List Nat):Prop where
  mem:∀ j,j∈l→j<6∧j≠u∧c.goal j≤runs s j - cntL j l
  on:∀ j,j<6→cntL j l≤s.on j m
  fits:∀ r,r<4→c.ud u r≤room c s m r+demL c r l
theorem jEx {c:FC}{s:FM}{u m:Nat}{l:List Nat}(h:FInv c s)(hm:m<8)(hc:clearF c s u m=some l):Cleared c s u m l:=by
 obtain ⟨hk,_⟩:=KInv.fin (u:=u) h hm;unfold clearF at hc;simp only at hc
 cases hb:bearsB (kEnd c u (kBeg c s m)).rm (c.ud u) 4 with
 | false=>rw[hb] at hc;simp at hc
 | true=>
  rw[hb] at hc;simp only[if_true,Option.some.injEq] at hc;subst hc;generalize kEnd c u (kBeg c s m)=k at *;have hsub:=jKM (c:=c) (u:=u) k.off k.rm;(have hcnt:∀ j,cntL j (backF c u k.off k.rm)≤cntL j k.off:=fun j=>by unfold cntL;have:=hsub.count_le j;omega);refine ⟨fun j hj=>?_,fun j hj=>?_,fun r hr=>?_⟩
  ·obtain ⟨h1,h2,h3⟩:=hk.keep j (hsub.subset hj);have:=hk.run j h1;have:=hcnt j;exact ⟨h1,h2,by omega⟩
  ·have:=hk.here j hj;have:=hk.here0 j hj;have:=hcnt j;omega
  ·have h1:=jHi (c:=c) (u:=u) k.off k.rm (jA8.1 hb) r hr;rw[hk.rm r] at h1;omega
theorem jB0 (j a:Nat)(l:List Nat):cntL j (a :: l)=cntL j l+if j=a then 1 else 0:=by
 unfold cntL;by_cases e:j=a
 ·subst e;rw[List.count_cons_self,if_pos rfl];omega
 ·rw[List.count_cons_of_ne (fun h=>e h.symm),if_neg e];omega
theorem jAZ (j:Nat)(l:List Nat):0≤cntL j l:=by unfold cntL;omega
theorem jGx (m:Nat):∀ (l:List Nat) (s:FM) (j k:Nat),(waysF s m l).on j k=s.on j k - if k=m then cntL j l else 0:=by
 intro l
 induction l with
 | nil=>intro s j k;show s.on j k=_;unfold cntL;simp
 | cons a l ih=>
  intro s j k;show (waysF (wayF s a m) m l).on j k=_;rw[ih,jB0];show upd2 s.on a m (s.on a m - 1) j k - _=_;unfold upd2;by_cases e1:j=a <;> by_cases e2:k=m
  ·subst e1;subst e2;simp;omega
  ·simp[e2]
  ·simp[e1,e2]
  ·simp[e1,e2]
theorem jB1 (m:Nat):∀ (l:List Nat) (s:FM) (j:Nat),(waysF s m l).wait j=s.wait j+cntL j l:=by
 intro l
 induction l with
 | nil=>intro s j;show s.wait j=_;unfold cntL;simp
 | cons a l ih=>
  intro s j;show (waysF (wayF s a m) m l).wait j=_;rw[ih,jB0];show updI s.wait a (s.wait a+1) j + _=_;unfold updI;by_cases e1:j=a
  ·subst e1;simp;omega
  ·simp[e1]
theorem jG8 (m:Nat):∀ (l:List Nat) (s:FM) (j:Nat),(waysF s m l).rev j=s.rev j+cntL j l:=by
 intro l
 induction l with
 | nil=>intro s j;show s.rev j=_;unfold cntL;simp
 | cons a l ih=>
  intro s j;show (waysF (wayF s a m) m l).rev j=_;rw[ih,jB0];show updI s.rev a (s.rev a+1) j + _=_;unfold updI;by_cases e1:j=a
  ·subst e1;simp;omega
  ·simp[e1]
theorem jEL {m:Nat}(hm:m<8):∀ (l:List Nat) (s:FM) (j:Nat),runs (waysF s m l) j=runs s j - cntL j l:=by
 intro l
 induction l with
 | nil=>intro s j;show runs s j=_;unfold cntL;simp
 | cons a l ih=>
  intro s j;show runs (waysF (wayF s a m) m l) j=_;rw[ih,jB0,jHM hm];by_cases e1:j=a
  ·subst e1;simp;omega
  ·simp[e1]
theorem jFx {c:FC}{m:Nat}:∀ (l:List Nat) (s:FM),(∀ j,j∈l→j<6)→∀ k r,room c (waysF s m l) k r=room c s k r+if k=m then demL c r l else 0:=by
 intro l
 induction l with
 | nil=>intro s _ k r;show room c s k r=_;simp[demL]
 | cons a l ih=>
  intro s hl k r;show room c (waysF (wayF s a m) m l) k r=_;rw[ih _ (fun j hj=>hl j (List.mem_cons_of_mem _ hj)),jHU (hl a List.mem_cons_self)];by_cases e:k=m
  ·subst e;simp[demL];omega
  ·simp[e]
theorem jGf {c:FC}(ho:FOk c){r:Nat}(hr:r<4):∀ l:List Nat,(∀ j,j∈l→j<6)→0≤demL c r l:=by
 intro l
 induction l with
 | nil=>intro _;exact Int.le_refl _
 | cons a l ih=>intro hl;have:=ih (fun j hj=>hl j (List.mem_cons_of_mem _ hj));have:=ho.ud a (hl a List.mem_cons_self) r hr;simp only[demL];omega
theorem Cleared.inv {c:FC}{s:FM}(ho:FOk c){u m:Nat}{l:List Nat}(h:FInv c s)(hm:m<8)(hc:Cleared c s u m l):FInv c (waysF s m l):=by
 (have hl:∀ j,j∈l→j<6:=fun j hj=>(hc.mem j hj).1);refine ⟨fun v hv k hk=>?_,fun v hv=>?_,fun k hk r hr=>?_,fun v hv=>?_,fun k hk hg v hv=>?_⟩
 ·rw[jGx];split
  ·rename_i e;subst e;have:=hc.on v hv;omega
  ·have:=h.on v hv k hk;omega
 ·rw[jB1];have:=h.wait v hv;have:=jAZ v l;omega
 ·rw[jFx l s hl];have:=h.room k hk r hr;have:=jGf ho hr l hl;split <;> omega
 ·rw[jB1,jEL hm];have:=h.goal v hv;omega
 ·rw[jGx];have h1:=h.gone k hk hg v hv;split
  ·rename_i e;subst e;have:=hc.on v hv;have:=jAZ v l;omega
  ·omega
theorem Cleared.zero {c:FC}{s:FM}{u m:Nat}{l:List Nat}(hc:Cleared c s u m l):cntL u l=0:=by
 unfold cntL;rw[List.count_eq_zero.2 (fun h=>(hc.mem u h).2.1 rfl)];rfl
structure Goal1 (c:FC)(s t:FM)(u m:Nat)(l:List Nat):Prop where
  hu:u<6
  hm:m<8
  lt:runs s u<c.goal u
  mt:c.mt m=true
  cl:Cleared c s u m l
  eq:t=startF (waysF s m l) u m
theorem Goal1.inv {c:FC}{s t:FM}(ho:FOk c){u m:Nat}{l:List Nat}(h:FInv c s)(g:Goal1 c s t u m l):FInv c t:=by
 rw[g.eq];refine (g.cl.inv ho h g.hm).start g.hu g.hm (jDv.2 ⟨g.mt,fun r hr=>?_⟩) ?_
 ·rw[jFx l s (fun j hj=>(g.cl.mem j hj).1),if_pos rfl];exact g.cl.fits r hr
 ·rw[jB1,g.cl.zero];have:=h.goal u g.hu;have:=g.lt;omega
theorem Goal1.runs {c:FC}{s t:FM}{u m:Nat}{l:List Nat}(g:Goal1 c s t u m l)(j:Nat):Por.runs t j=Por.runs s j - cntL j l+if j=u then 1 else 0:=by
 rw[g.eq,jDc g.hm,jEL g.hm,jEL g.hm];by_cases e:j=u
 ·subst e;simp
 ·simp[e]
theorem Goal1.wait {c:FC}{s t:FM}{u m:Nat}{l:List Nat}(g:Goal1 c s t u m l)(j:Nat):t.wait j=s.wait j+cntL j l - if j=u then 1 else 0:=by
 rw[g.eq];show updI (waysF s m l).wait u ((waysF s m l).wait u - 1) j=_;unfold updI;by_cases e:j=u
 ·subst e;simp[jB1]
 ·simp[e,jB1]
theorem Goal1.rev {c:FC}{s t:FM}{u m:Nat}{l:List Nat}(g:Goal1 c s t u m l)(j:Nat):t.rev j=s.rev j+cntL j l:=by
 rw[g.eq];exact jG8 m l s j
theorem choose_spec (c:FC)(s:FM)(u:Nat):∀ k,((chooseF c s u k).2.2=true→(chooseF c s u k).1<k∧c.mt (chooseF c s u k).1=true∧clearF c s u (chooseF c s u k).1=some (chooseF c s u k).2.1)∧((chooseF c s u k).2.2=false→∀ m,m<k→c.mt m=true→clearF c s u m=none):=by
 intro k
 induction k with
 | zero=>exact ⟨fun h=>(by cases h),fun _ m hm=>by omega⟩
 | succ k ih=>
  simp only[chooseF]
  cases ht:c.mt k with
  | false=>
   simp only[Bool.false_eq_true,if_false];refine ⟨fun h=>⟨by have:=(ih.1 h).1;omega,(ih.1 h).2⟩,fun h m hm hmt=>?_⟩;by_cases e:m=k
   ·subst e;rw[ht] at hmt;cases hmt
   ·exact ih.2 h m (by omega) hmt
  | true=>
   simp only[if_true]
   cases hf:clearF c s u k with
   | none=>
    simp only;refine ⟨fun h=>⟨by have:=(ih.1 h).1;omega,(ih.1 h).2⟩,fun h m hm hmt=>?_⟩;by_cases e:m=k
    ·subst e;exact hf
    ·exact ih.2 h m (by omega) hmt
   | some l=>
    simp only
    cases hx:(!(chooseF c s u k).2.2 || decide (l.length<(chooseF c s u k).2.1.length)) with
    | true=>simp only[if_true];exact ⟨fun _=>⟨by omega,ht,hf⟩,fun h=>(by cases h)⟩
    | false=>
     simp only[Bool.false_eq_true,if_false]
     have h2:(chooseF c s u k).2.2=true:=by
      cases h3:(chooseF c s u k).2.2 with
      | true=>rfl
      | false=>rw[h3] at hx;cases hx
     exact ⟨fun h=>⟨by have:=(ih.1 h).1;omega,(ih.1 h).2⟩,fun h=>by rw[h2] at h;cases h⟩
theorem jHf {c:FC}{s t:FM}{u:Nat}(h:FInv c s)(hu:u<6)(hlt:runs s u<c.goal u)(hp:placeF c s u=some t):∃ m l,Goal1 c s t u m l:=by
 unfold placeF at hp
 cases ht:(tight c s u).2 with
 | true=>
  rw[ht] at hp;simp only[if_true,Option.some.injEq] at hp;obtain ⟨h1,h2⟩:=jC6 ht;obtain ⟨h3,h4⟩:=jDv.1 h2;refine ⟨_,[],hu,h1,hlt,h3,⟨fun j hj=>(by cases hj),fun j hj=>?_,fun r hr=>?_⟩,hp.symm⟩
  ·have:=h.on j hj _ h1;show ((List.count j []:Nat):Int)≤_;simpa using this
  ·have:=h4 r hr;show _≤_+(0:Int);omega
 | false=>
  rw[ht] at hp;simp only[Bool.false_eq_true,if_false] at hp
  cases hx:(chooseF c s u 8).2.2 with
  | false=>rw[hx] at hp;simp at hp
  | true=>rw[hx] at hp;simp only[if_true,Option.some.injEq] at hp;obtain ⟨h1,h2,h3⟩:=(choose_spec c s u 8).1 hx;exact ⟨(chooseF c s u 8).1,(chooseF c s u 8).2.1,hu,h1,hlt,h2,jEx h h1 h3,hp.symm⟩
theorem jHm {c:FC}{s:FM}{u:Nat}(hp:placeF c s u=none):∀ m,m<8→c.mt m=true→clearF c s u m=none:=by
 unfold placeF at hp
 cases ht:(tight c s u).2 with
 | true=>rw[ht] at hp;simp at hp
 | false=>
  rw[ht] at hp;simp only[Bool.false_eq_true,if_false] at hp
  cases hx:(chooseF c s u 8).2.2 with
  | false=>exact (choose_spec c s u 8).2 hx
  | true=>rw[hx] at hp;simp at hp
theorem jKW {c:FC}{s t:FM}:∀ n i,oneF c s i n=some t→∃ u,i≤u∧u<i+n∧runs s u<c.goal u∧placeF c s u=some t:=by
 intro n
 induction n with
 | zero=>intro i h;cases h
 | succ n ih=>
  intro i h;simp only[oneF] at h;by_cases hd:c.goal i≤runs s i
  ·rw[decide_eq_true hd] at h;simp only[if_true] at h;obtain ⟨u,h1,h2,h3⟩:=ih (i+1) h;exact ⟨u,by omega,by omega,h3⟩
  ·rw[decide_eq_false hd] at h;simp only[Bool.false_eq_true,if_false] at h
   cases hp:placeF c s i with
   | some t'=>rw[hp] at h;simp only[Option.some.injEq] at h;subst h;exact ⟨i,by omega,by omega,by omega,hp⟩
   | none=>rw[hp] at h;simp only at h;obtain ⟨u,h1,h2,h3⟩:=ih (i+1) h;exact ⟨u,by omega,by omega,h3⟩
theorem jJp {c:FC}{s:FM}:∀ n i,oneF c s i n=none→∀ u,i≤u→u<i+n→runs s u<c.goal u→placeF c s u=none:=by
 intro n
 induction n with
 | zero=>intro i _ u h1 h2;omega
 | succ n ih=>
  intro i h u h1 h2 h3;simp only[oneF] at h;by_cases hd:c.goal i≤runs s i
  ·rw[decide_eq_true hd] at h;simp only[if_true] at h;by_cases e:u=i
   ·subst e;omega
   ·exact ih (i+1) h u (by omega) (by omega) h3
  ·rw[decide_eq_false hd] at h;simp only[Bool.false_eq_true,if_false] at h
   cases hp:placeF c s i with
   | some t'=>rw[hp] at h;simp at h
   | none=>
    rw[hp] at h;simp only at h;by_cases e:u=i
    ·subst e;exact hp
    ·exact ih (i+1) h u (by omega) (by omega) h3
theorem jBa {c:FC}{s t:FM}(h:FInv c s)(hg:goalF c s=some t):∃ u m l,Goal1 c s t u m l:=by
 obtain ⟨u,_,h1,h2,h3⟩:=jKW 6 0 hg;obtain ⟨m,l,h4⟩:=jHf h (by omega) h2 h3;exact ⟨u,m,l,h4⟩
theorem jI1 {c:FC} {s:FM} (hg:goalF c s=none) {u:Nat} (hu:u<6) (hlt:runs s u<c.goal u):∀ m,m<8→c.mt m=true→clearF c s u m=none:=
  jHm (jJp 6 0 hg u (by omega) (by omega) hlt)
structure Fill1 (c:FC)(s t:FM)(u m:Nat):Prop where
  hu:u<6
  hm:m<8
  lt:runs s u<c.uc u
  wait:0<s.wait u
  fits:fitsB c s u m=true
  eq:t=startF s u m
theorem jBb {c:FC}{s t:FM}(hf:fillF c s=some t):∃ u m,Fill1 c s t u m:=by
 unfold fillF at hf
 cases hx:(nextF c s 6).2.2 with
 | false=>rw[hx] at hf;simp at hf
 | true=>rw[hx] at hf;simp only[if_true,Option.some.injEq] at hf;obtain ⟨h1,h2⟩:=(jDN c s 6).1 hx;unfold openB at h2;simp only[Bool.and_eq_true,Bool.not_eq_true',Bool.or_eq_false_iff,decide_eq_false_iff_not] at h2;obtain ⟨h3,h4⟩:=jC6 h2.2;exact ⟨_,_,h1,h3,by omega,by omega,h4,hf.symm⟩
theorem jI4 {c:FC}{s:FM}(hf:fillF c s=none){u:Nat}(hu:u<6)(hw:0<s.wait u)(hlt:runs s u<c.uc u){m:Nat}(hm:m<8):fitsB c s u m=false:=by
 unfold fillF at hf
 cases hx:(nextF c s 6).2.2 with
 | true=>rw[hx] at hf;simp at hf
 | false=>have h2:=(jDN c s 6).2 hx u hu;unfold openB at h2;have e1:decide (s.wait u<1)=false:=decide_eq_false (by omega);have e2:decide (c.uc u≤runs s u)=false:=decide_eq_false (by omega);rw[e1,e2] at h2;simp only[Bool.or_self,Bool.not_false,Bool.true_and] at h2;exact jKH h2 hm
theorem Fill1.inv {c:FC}{s t:FM}{u m:Nat}(h:FInv c s)(f:Fill1 c s t u m):FInv c t:=by
 rw[f.eq];exact h.start f.hu f.hm f.fits f.wait
theorem Fill1.runs {c:FC}{s t:FM}{u m:Nat}(f:Fill1 c s t u m)(j:Nat):Por.runs t j=if j=u then Por.runs s u+1 else Por.runs s j:=by rw[f.eq,jDc f.hm]
theorem Fill1.wt {c:FC}{s t:FM}{u m:Nat}(f:Fill1 c s t u m)(j:Nat):t.wait j=if j=u then s.wait u - 1 else s.wait j:=by rw[f.eq];rfl
theorem Outer.rel {c:FC}{R:FM→FM→Prop}(hr:∀ s,R s s)(hg:∀ s t z,goalF c s=some t→R t z→R s z)(hf:∀ s t z,fillF c s=some t→R t z→R s z){s z:FM}(h:Outer c s z):R s z:=by
 have tr:∀ {f:FM→Option FM},(∀ s t z,f s=some t→R t z→R s z)→∀ {a b z:FM},Iter f a b→R b z→R a z:=by
  intro f hh a b z hi hz
  induction hi with
  | done _=>exact hz
  | step h _ ih=>exact hh _ _ _ h (ih hz)
 induction h with
 | done _=>exact hr _
 | more h i j _ ih=>exact hg _ _ _ h (tr hg i (tr hf j ih))
theorem Settles.rel {c:FC}{R:FM→FM→Prop}(hr:∀ s,R s s)(hg:∀ s t z,goalF c s=some t→R t z→R s z)(hf:∀ s t z,fillF c s=some t→R t z→R s z){s z:FM}(h:Settles c s z):R s z:=by
 have tr:∀ {f:FM→Option FM},(∀ s t z,f s=some t→R t z→R s z)→∀ {a b z:FM},Iter f a b→R b z→R a z:=by
  intro f hh a b z hi hz
  induction hi with
  | done _=>exact hz
  | step h _ ih=>exact hh _ _ _ h (ih hz)
 obtain ⟨v,x,i,j,k⟩:=h;exact tr hg i (tr hf j (k.rel hr hg hf))
theorem Settles.inv {c:FC} {P:FM→Prop} (hg:∀ s t,P s→goalF c s=some t→P t) (hf:∀ s t,P s→fillF c s=some t→P t) {s z:FM} (h:Settles c s z) (h0:P s):P z:=
  h.rel (R:=fun a b=>P a→P b) (fun _ h=>h) (fun _ _ _ h1 h2 h3=>h2 (hg _ _ h3 h1)) (fun _ _ _ h1 h2 h3=>h2 (hf _ _ h3 h1)) h0
theorem Outer.fin {c:FC}{s z:FM}(h:Outer c s z):fillF c s=none→goalF c z=none∧fillF c z=none:=by
 induction h with
 | done h=>exact fun h2=>⟨h,h2⟩
 | more _ _ j _ ih=>exact fun _=>ih j.last
theorem Settles.fin {c:FC}{s z:FM}(h:Settles c s z):goalF c z=none∧fillF c z=none:=by
 obtain ⟨v,x,_,j,k⟩:=h;exact k.fin j.last
theorem Settles.finv {c:FC} (ho:FOk c) {s z:FM} (h:Settles c s z) (h0:FInv c s):FInv c z:=
  h.inv (P:=FInv c) (fun s t h1 h2=>by obtain ⟨u,m,l,g⟩:=jBa h1 h2;exact g.inv ho h1) (fun s t h1 h2=>by obtain ⟨u,m,f⟩:=jBb h2;exact f.inv h1) h0
theorem Settles.tasks {c:FC}(ho:FOk c){s z:FM}(h:Settles c s z)(h0:FInv c s)(u:Nat):z.wait u+runs z u=s.wait u+runs s u:=by
  have := h.inv (P := fun t => FInv c t ∧ t.wait u + runs t u = s.wait u + runs s u) (fun a t h1 h2 => by
    obtain ⟨v, m, l, g⟩ := jBa h1.1 h2
    refine ⟨g.inv ho h1.1, ?_⟩
    rw [g.runs u, g.wait u]; have := h1.2; omega) (fun a t h1 h2 => by
    obtain ⟨v, m, f⟩ := jBb h2
    refine ⟨f.inv h1.1, ?_⟩
    rw [f.runs u, f.wt u]; have := h1.2
    by_cases e : u = v
    · subst e; simp; omega
    · simp [e]; omega) ⟨h0, rfl⟩
  exact this.2
structure Gent (c:FC)(s z:FM):Prop where
  rev:∀ u,u<6→s.rev u≤z.rev u
  way:∀ u,u<6→s.rev u<z.rev u→c.goal u≤runs z u
  kept:∀ u,u<6→s.rev u=z.rev u→runs s u≤runs z u
  low:∀ u,u<6→runs s u≤runs z u∨c.goal u≤runs z u
  gain:(∃ u,u<6∧s.rev u<z.rev u)→∃ v,v<6∧runs s v<c.goal v∧runs s v<runs z v
theorem Gent.goal {c:FC}{a s t:FM}(h:Gent c a s){u m:Nat}{l:List Nat}(g:Goal1 c s t u m l):Gent c a t:=by
 have hz:=g.cl.zero;(have hmem:∀ j,j<6→0<cntL j l→c.goal j≤runs s j - cntL j l:=fun j hj h0=>by refine (g.cl.mem j ?_).2.2;apply Classical.byContradiction;intro h5;unfold cntL at h0;rw[List.count_eq_zero.2 h5] at h0;simp at h0);(have hru:∀ j,j≠u→runs t j=runs s j - cntL j l:=fun j hj=>by rw[g.runs j,if_neg hj];omega);(have hruu:runs t u=runs s u+1:=by rw[g.runs u,if_pos rfl,hz];omega);have hrev:=g.rev;have hlt:=g.lt;(have hkeep:a.rev u=s.rev u:=by have h1:=h.rev u g.hu;apply Classical.byContradiction;intro h5;have:=h.way u g.hu (by omega);omega);have hgu:=h.kept u g.hu hkeep;refine ⟨fun j hj=>?_,fun j hj hlt2=>?_,fun j hj he=>?_,fun j hj=>?_,fun _=>?_⟩
 ·have:=h.rev j hj;have:=hrev j;have:=jAZ j l;omega
 ·by_cases e:j=u
  ·subst e;rw[hrev j,hz] at hlt2;omega
  ·rw[hru j e];by_cases h0:0<cntL j l
   ·have:=hmem j hj h0;omega
   ·(have hc:cntL j l=0:=by have:=jAZ j l;omega);rw[hrev j,hc] at hlt2;rw[hc];have:=h.way j hj (by omega);omega
 ·have h0:=jAZ j l;have h1:=h.rev j hj;rw[hrev j] at he;by_cases e:j=u
  ·subst e;rw[hruu];omega
  ·rw[hru j e];have:=h.kept j hj (by omega);omega
 ·by_cases e:j=u
  ·subst e;rw[hruu];left;omega
  ·rw[hru j e];by_cases h0:0<cntL j l
   ·right;exact hmem j hj h0
   ·(have hc:cntL j l=0:=by have:=jAZ j l;omega);rw[hc];rcases h.low j hj with h5 | h5
    ·left;omega
    ·right;omega
 ·exact ⟨u,g.hu,by omega,by omega⟩
theorem Gent.fill {c:FC}{a s t:FM}(h:Gent c a s){u m:Nat}(f:Fill1 c s t u m):Gent c a t:=by
 have hr:∀ j,runs s j≤runs t j:=fun j=>by
  rw[f.runs j];by_cases e:j=u
  ·subst e;simp;omega
  ·simp[e]
 (have hv:t.rev=s.rev:=by rw[f.eq];rfl);refine ⟨fun j hj=>by rw[hv];exact h.rev j hj,fun j hj h1=>?_,fun j hj h1=>?_,fun j hj=>?_,fun h1=>?_⟩
 ·rw[hv] at h1;have:=h.way j hj h1;have:=hr j;omega
 ·rw[hv] at h1;have:=h.kept j hj h1;have:=hr j;omega
 ·have:=hr j;rcases h.low j hj with h5 | h5 <;> omega
 ·rw[hv] at h1;obtain ⟨v,h2,h3,h4⟩:=h.gain h1;exact ⟨v,h2,h3,by have:=hr v;omega⟩
theorem Settles.gentle {c:FC}(ho:FOk c){s z:FM}(h:Settles c s z)(h0:FInv c s):Gent c s z:=by
  have := h.inv (P := fun t => FInv c t ∧ Gent c s t) (fun a t h1 h2 => by
    obtain ⟨v, m, l, g⟩ := jBa h1.1 h2
    exact ⟨g.inv ho h1.1, h1.2.goal g⟩) (fun a t h1 h2 => by
    obtain ⟨v, m, f⟩ := jBb h2
    exact ⟨f.inv h1.1, h1.2.fill f⟩) ⟨h0, fun u _ => Int.le_refl _, fun u _ h => by omega, fun u _ _ => Int.le_refl _, fun u _ => Or.inl (Int.le_refl _), fun ⟨u, _, h⟩ => by omega⟩
  exact this.2
def lack (c:FC)(s:FM):Int:=sumI (fun u=>max 0 (c.goal u - runs s u)) 6
theorem jCt (c:FC)(s:FM):0≤lack c s:=jAL (fun u _=>by omega)
theorem Goal1.lack {c:FC}{s t:FM}{u m:Nat}{l:List Nat}(g:Goal1 c s t u m l):lack c t=lack c s - 1:=by
  have hz:=g.cl.zero
  have := jBT (f := fun j => max 0 (c.goal j - Por.runs t j)) (g := fun j => max 0 (c.goal j - Por.runs s j)) g.hu (fun j hj hne => by
    show max 0 (c.goal j - Por.runs t j) = max 0 (c.goal j - Por.runs s j)
    rw [g.runs j, if_neg hne]
    have h0 := jAZ j l
    by_cases h1 : 0 < cntL j l
    · have h2 := (g.cl.mem j (by
        apply Classical.byContradiction
        intro h5
        unfold cntL at h1
        rw [List.count_eq_zero.2 h5] at h1; simp at h1)).2.2
      omega
    · have : cntL j l = 0 := by omega
      rw [this]; omega)
  unfold Por.lack;rw[this,g.runs u,if_pos rfl,hz];have:=g.lt;omega
theorem Fill1.lack {c:FC}{s t:FM}{u m:Nat}(f:Fill1 c s t u m):lack c t≤lack c s:=by
 refine jEZ (fun j hj=>?_);show max 0 (c.goal j - Por.runs t j)≤max 0 (c.goal j - Por.runs s j);rw[f.runs j];by_cases e:j=u
 ·subst e;rw[if_pos rfl];omega
 ·rw[if_neg e];omega
def waits (s:FM):Int:=sumI s.wait 6
theorem Fill1.waits {c:FC}{s t:FM}{u m:Nat}(f:Fill1 c s t u m):waits t=waits s - 1:=by
 have:=jBT (f:=t.wait) (g:=s.wait) f.hu (fun j hj hne=>by rw[f.wt j,if_neg hne]);unfold Por.waits;rw[this,f.wt u,if_pos rfl];omega
theorem FInv.waits {c:FC}{s:FM}(h:FInv c s):0≤waits s:=jAL h.wait
theorem jJn (l:List Nat)(hl:∀ j,j∈l→j<6):sumI (fun j=>cntL j l) 6=l.length:=by
 induction l with
 | nil=>exact jAq (fun j _=>by show ((List.count j []:Nat):Int)=0;simp)
 | cons a l ih=>have h1:=ih (fun j hj=>hl j (List.mem_cons_of_mem _ hj));have h2:=jBT (f:=fun j=>cntL j (a :: l)) (g:=fun j=>cntL j l) (i:=a) (hl a List.mem_cons_self) (fun j _ hne=>by show cntL j (a :: l)=cntL j l;rw[jB0,if_neg hne];omega);rw[h2,h1];show _+(cntL a (a :: l) - cntL a l)=_;rw[jB0,if_pos rfl];simp;omega
theorem Settles.revs {c:FC}(ho:FOk c){s z:FM}(h:Settles c s z)(h0:FInv c s){T:Int}(hT:∀ u,u<6→s.wait u+runs s u≤T)(u:Nat)(hu:u<6):z.rev u≤s.rev u+T*lack c s:=by
  have hT0:0≤T:=by have h1:=h0.wait u hu;have h2:=hT u hu;have h3:0≤runs s u:=jAL (h0.on u hu);omega
  have := h.inv (P := fun t => FInv c t ∧ (∀ u, u < 6 → t.wait u + runs t u ≤ T) ∧ t.rev u + T * lack c t ≤ s.rev u + T * lack c s) (fun a t h1 h2 => by
    obtain ⟨v, m, l, g⟩ := jBa h1.1 h2
    refine ⟨g.inv ho h1.1, fun j hj => ?_, ?_⟩
    · rw [g.runs j, g.wait j]; have := h1.2.1 j hj; omega
    · rw [g.rev u, g.lack, Int.mul_sub, Int.mul_one]
      have h3 := g.cl.on u hu
      have h4 := jCB (h1.1.on u hu) g.hm
      have h5 := h1.2.1 u hu
      have h6 := h1.1.wait u hu
      have h7 := h1.2.2
      change a.on u m ≤ runs a u at h4
      omega) (fun a t h1 h2 => by
    obtain ⟨v, m, f⟩ := jBb h2
    refine ⟨f.inv h1.1, fun j hj => ?_, ?_⟩
    · rw [f.runs j, f.wt j]; have := h1.2.1 j hj
      by_cases e : j = v
      · subst e; simp; omega
      · simp [e]; omega
    · have e : t.rev = a.rev := by rw [f.eq]; rfl
      rw [e]
      have := Int.mul_le_mul_of_nonneg_left f.lack hT0
      have := h1.2.2
      omega) ⟨h0, hT, Int.le_refl _⟩
  have h9:=this.2.2;have:=Int.mul_nonneg hT0 (jCt c z);omega
end Go.Proofs.YtigokanoflkinabGreatDoor.Por
