/- LimbsA, LimbsB, LimbsC, TextA, RatA, RatB, Digs, joined. -/
import Derived.Lib.ItoaNum
import Derived.WalkKit
namespace Go.Proofs.YtigokanoflkinabGreatDoor.Por
def limbsF:Nat→Nat→List Int
  | 0,_=>[]
  | f+1,n=>if n=0 then [] else ((n % 10000:Nat):Int) :: limbsF f (n / 10000)
def limbs (n:Nat):List Int:=limbsF n n
def val:List Int→Int
  | []=>0
  | x :: xs=>x+10000*val xs
def lm (xs:List Int)(j:Nat):Int:=xs.getD j 0
def Lim (xs:List Int):Prop:=∀ x∈xs,0≤x∧x<10000
theorem jDA:∀ (f g n:Nat),n≤f→n≤g→limbsF f n=limbsF g n
  | 0,g,n,hf,_=>by
    obtain rfl:n=0:=by omega
    cases g <;> simp[limbsF]
  | f+1,0,n,_,hg=>by
    obtain rfl:n=0:=by omega
    simp[limbsF]
  | f+1,g+1,n,hf,hg=>by
    unfold limbsF
    by_cases h:n=0
    · simp[h]
    · rw[if_neg h,if_neg h,jDA f g (n / 10000) (by omega) (by omega)]
theorem jAl:limbs 0 = []:=rfl
theorem jBM (n:Nat)(h:n≠0):limbs n=((n % 10000:Nat):Int) :: limbs (n / 10000):=by
 obtain ⟨m,rfl⟩:∃ m,n=m+1:=⟨n - 1,by omega⟩;unfold limbs;rw[limbsF,if_neg h,jDA m ((m+1) / 10000) _ (by omega) (by omega)]
theorem jCP (P:Nat→Prop)(h0:P 0)(hs:∀ n,n≠0→P (n / 10000)→P n)(n:Nat):P n:=by
 induction n using Nat.strongRecOn with
 | ind n ih=>
  by_cases h:n=0
  ·subst h;exact h0
  ·exact hs n h (ih _ (by omega))
theorem jAb (n:Nat):val (limbs n)=n:=by
 induction n using jCP with
 | h0=>simp[jAl,val]
 | hs n h ih=>rw[jBM n h,val,ih];omega
theorem jAI (n:Nat):Lim (limbs n):=by
 induction n using jCP with
 | h0=>simp[jAl,Lim]
 | hs n h ih=>
  rw[jBM n h];intro x hx;rcases List.mem_cons.1 hx with rfl | hx
  ·omega
  ·exact ih x hx
theorem jAY {xs:List Int}(h:Lim xs):0≤val xs:=by
 induction xs with
 | nil=>simp[val]
 | cons x xs ih=>have:=ih (fun y hy=>h y (by simp[hy]));have:=h x (by simp);simp only[val];omega
theorem jBt {n:Nat}(h:n≠0):limbs n≠[]:=by rw[jBM n h];simp
theorem jDe {n:Nat}:limbs n = []↔n=0:=by
 constructor
 ·intro h;by_cases e:n=0
  ·exact e
  ·exact absurd h (jBt e)
 ·rintro rfl;rfl
def Topped (xs:List Int):Prop:=xs.getLast?≠some 0
theorem jFT {xs:List Int}(h:Lim xs)(ht:Topped xs):limbs (val xs).toNat=xs:=by
 induction xs with
 | nil=>simp[val,jAl]
 | cons x xs ih=>
  have hx:=h x (by simp);(have hl:Lim xs:=fun y hy=>h y (by simp[hy]));have hv:=jAY hl;by_cases e:xs = []
  ·subst e;(have:x≠0:=by intro e;apply ht;simp[e]);(have e2:val [x]=x:=by simp[val]);rw[e2,jBM _ (by omega)];(have e3:x.toNat / 10000=0:=by omega);rw[e3,jAl];(have:((x.toNat % 10000:Nat):Int)=x:=by omega);rw[this]
  ·(have ht':Topped xs:=by intro hc;apply ht;rw[List.getLast?_cons,hc];simp);have ih:=ih hl ht';(have hne:val xs≠0:=by intro hc;rw[hc] at ih;exact e (by simpa [jAl] using ih.symm));simp only[val];rw[jBM _ (by omega)];(have e3:(x+10000*val xs).toNat / 10000=(val xs).toNat:=by omega);rw[e3,ih];(have:(((x+10000*val xs).toNat % 10000:Nat):Int)=x:=by omega);rw[this]
theorem jBW (n:Nat):Topped (limbs n):=by
 induction n using jCP with
 | h0=>simp[jAl,Topped]
 | hs n h ih=>
  rw[jBM n h];unfold Topped at *;by_cases e:n / 10000=0
  ·rw[e,jAl];simp;omega
  ·rw[List.getLast?_cons]
   cases hc:(limbs (n / 10000)).getLast? with
   | none=>exact absurd (List.getLast?_eq_none_iff.1 hc) (jBt e)
   | some v=>rw[hc] at ih;simpa using ih
theorem jCk (xs ys:List Int):val (xs ++ ys)=val xs+10000 ^ xs.length*val ys:=by
 induction xs with
 | nil=>simp[val]
 | cons x xs ih=>simp only[List.cons_append,val,ih,List.length_cons,Int.pow_succ];grind
theorem jCp {xs:List Int}(h:Lim xs):val xs<10000 ^ xs.length:=by
 induction xs with
 | nil=>simp[val]
 | cons x xs ih=>have:=ih (fun y hy=>h y (by simp[hy]));have:=h x (by simp);simp only[val,List.length_cons,Int.pow_succ];omega
theorem jCL (xs:List Int)(n:Nat)(hz:∀ i,n≤i→i<xs.length→lm xs i=0):val (xs.take n)=val xs:=by
 unfold lm at *
 induction xs generalizing n with
 | nil=>simp
 | cons x xs ih=>
  cases n with
  | zero=>have h0:=hz 0 (by omega) (by simp);simp at h0;have:=ih 0 (fun i _ hi=>by have:=hz (i+1) (by omega) (by simp;omega);simpa using this);simp[val] at this ⊢;omega
  | succ n=>have:=ih n (fun i h hi=>by have:=hz (i+1) (by omega) (by simp;omega);simpa using this);simp only[List.take_succ_cons,val,this]
theorem jAj {xs:List Int}(h:Lim xs)(n:Nat):Lim (xs.take n):=fun x hx=>h x (List.mem_of_mem_take hx)
theorem jIr (xs:List Int)(n:Nat)(hL:Lim xs)(hn:n≤xs.length)(hz:∀ i,n≤i→i<xs.length→lm xs i=0)(ht:n=0∨lm xs (n - 1)≠0):xs.take n=limbs (val xs).toNat:=by
 unfold lm at *;rw[← jCL xs n hz];refine (jFT (jAj hL n) ?_).symm;unfold Topped;rcases ht with rfl | ht
 ·simp
 ·by_cases e:n=0
  ·subst e;simp
  ·rw[List.getLast?_eq_getElem?,List.length_take,Nat.min_eq_left hn,List.getElem?_take,if_pos (by omega)];rw[List.getD_eq_getElem?_getD] at ht;intro hc;rw[hc] at ht;simp at ht
theorem jBE (n:Nat):n<10000 ^ (limbs n).length:=by
 have h:=jCp (jAI n);rw[jAb] at h;have e:((10000 ^ (limbs n).length:Nat):Int)=10000 ^ (limbs n).length:=Int.natCast_pow 10000 _;omega
theorem jAM {n k:Nat}(h:n<10000 ^ k):(limbs n).length≤k:=by
 induction n using jCP generalizing k with
 | h0=>simp[jAl]
 | hs n hn ih=>
  rw[jBM n hn]
  cases k with
  | zero=>simp at h;omega
  | succ k=>simp only[List.length_cons];have:=@ih k (by rw[Nat.pow_succ] at h;omega);omega
theorem jFQ {n:Nat}(h:n≠0):10000 ^ ((limbs n).length - 1)≤n:=by
 induction n using jCP with
 | h0=>exact absurd rfl h
 | hs n hn ih=>
  rw[jBM n hn];by_cases e:n / 10000=0
  ·rw[e,jAl,List.length_singleton,Nat.sub_self,Nat.pow_zero];omega
  ·have:=ih e;(have hl:1≤(limbs (n / 10000)).length:=by have:=jBt e;cases hq:limbs (n / 10000) <;> simp_all);simp only[List.length_cons,Nat.add_sub_cancel];obtain ⟨m,hm⟩:∃ m,(limbs (n / 10000)).length=m+1:=⟨_,(Nat.sub_add_cancel hl).symm⟩;rw[hm] at this ⊢;simp only[Nat.add_sub_cancel] at this;rw[Nat.pow_succ];omega
theorem jAh {a b:Nat}(h:a≤b):(limbs a).length≤(limbs b).length:=jAM (Nat.lt_of_le_of_lt h (jBE b))
theorem jCU (a b:Nat):(limbs (a*b)).length≤(limbs a).length+(limbs b).length:=by
 apply jAM;rw[Nat.pow_add];have h1:=jBE a;have h2:=jBE b;exact Nat.mul_lt_mul_of_lt_of_lt h1 h2
theorem jI2 (a b:Nat):(limbs (a+b)).length≤max (limbs a).length (limbs b).length+1:=by
 apply jAM;have h1:=jBE a;have h2:=jBE b;have h3:10000 ^ (limbs a).length≤10000 ^ max (limbs a).length (limbs b).length:=Nat.pow_le_pow_right (by omega) (by omega);have h4:10000 ^ (limbs b).length≤10000 ^ max (limbs a).length (limbs b).length:=Nat.pow_le_pow_right (by omega) (by omega);rw[Nat.pow_succ];omega
theorem jAO (xs:List Int)(k:Nat):val (xs.take (k+1))=val (xs.take k)+10000 ^ k*lm xs k:=by
 unfold lm at *;by_cases h:k<xs.length
 ·rw[List.take_succ_eq_append_getElem h,jCk,List.length_take,Nat.min_eq_left (by omega)];simp[val,h]
 ·rw[List.take_of_length_le (by omega),List.take_of_length_le (by omega),List.getD_eq_getElem?_getD,List.getElem?_eq_none (by omega)];simp
theorem jFW (xs:List Int)(k:Nat)(v:Int)(h:k<xs.length):(xs.set k v).take (k+1)=xs.take k ++ [v]:=by
 rw[List.take_succ_eq_append_getElem (by simpa using h),List.take_set_of_le (by omega)];simp
theorem jBC (xs:List Int)(k:Nat)(v:Int)(h:k<xs.length):val ((xs.set k v).take (k+1))=val (xs.take k)+10000 ^ k*v:=by
 rw[jFW xs k v h,jCk,List.length_take,Nat.min_eq_left (by omega)];simp[val]
theorem jAN {xs:List Int}(h:Lim xs)(k:Nat):0≤lm xs k∧lm xs k<10000:=by
 unfold lm at *;rw[List.getD_eq_getElem?_getD];by_cases hk:k<xs.length
 ·rw[List.getElem?_eq_getElem hk];exact h _ (List.getElem_mem hk)
 ·rw[List.getElem?_eq_none (by omega)];simp
theorem jBw {xs:List Int}(h:Lim xs)(k:Nat)(v:Int)(h0:0≤v)(h1:v<10000):Lim (xs.set k v):=by
 intro x hx;rcases List.mem_or_eq_of_mem_set hx with hx | rfl
 ·exact h x hx
 ·exact ⟨h0,h1⟩
theorem jBJ (n:Nat):Lim (List.replicate n 0):=by
 intro x hx;have:=List.eq_of_mem_replicate hx;omega
theorem jJ6 (o A B:List Int)(k:Nat)(c s:Int)(hk:k<o.length)(hs:s=lm A k+lm B k+c)(h:val (o.take k)+10000 ^ k*c=val (A.take k)+val (B.take k)):val ((o.set k (s % 10000)).take (k+1))+10000 ^ (k+1)*(s / 10000)=val (A.take (k+1))+val (B.take (k+1)):=by
 rw[jBC o k _ hk,jAO,jAO,Int.pow_succ];(have e:s=s % 10000+10000*(s / 10000):=by omega);generalize s % 10000=m at *;generalize s / 10000=q at *;generalize (10000:Int) ^ k=P at *
 grind
theorem jKQ (o A B:List Int)(k:Nat)(b r b':Int)(hk:k<o.length)(hr:r - 10000*b'=lm A k - lm B k - b)(h:val (o.take k) - 10000 ^ k*b=val (A.take k) - val (B.take k)):val ((o.set k r).take (k+1)) - 10000 ^ (k+1)*b'=val (A.take (k+1)) - val (B.take (k+1)):=by
 rw[jBC o k _ hk,jAO,jAO,Int.pow_succ];generalize (10000:Int) ^ k=P at *
 grind
theorem jGa (xs:List Int)(k:Nat)(v:Int)(h:k<xs.length):val (xs.set k v)=val xs+10000 ^ k*(v - lm xs k):=by
 unfold lm at *
 induction xs generalizing k with
 | nil=>simp at h
 | cons x xs ih=>
  cases k with
  | zero=>simp[val];omega
  | succ k=>
   have:=ih k (by simpa using h);simp only[List.set_cons_succ,val,this,List.getD_cons_succ,Int.pow_succ]
   grind
theorem jKG (o B:List Int)(i j:Nat)(x c s V:Int)(hk:i+j<o.length)(hs:s=lm o (i+j)+x*lm B j+c)(h:val o+10000 ^ (i+j)*c=V+10000 ^ i*(x*val (B.take j))):val (o.set (i+j) (s % 10000))+10000 ^ (i+(j+1))*(s / 10000)=V+10000 ^ i*(x*val (B.take (j+1))):=by
 rw[jGa o _ _ hk,jAO,← Nat.add_assoc,Int.pow_succ,Int.pow_add] at *;(have e:s=s % 10000+10000*(s / 10000):=by omega);generalize s % 10000=m at *;generalize s / 10000=q at *;generalize (10000:Int) ^ i=P at *;generalize (10000:Int) ^ j=R at *
 grind
theorem jIt (l x y c:Int)(hl:0≤l∧l<10000)(hx:0≤x∧x<10000)(hy:0≤y∧y<10000)(hc:0≤c∧c<10000):0≤x*y∧x*y≤99980001∧0≤l+x*y+c∧l+x*y+c≤99999999:=by
 have h1:0≤x*y:=Int.mul_nonneg hx.1 hy.1;have h2:x*y≤9999*9999:=Int.mul_le_mul (by omega) (by omega) hy.1 (by omega);omega
theorem jCg (A B:List Int)(hA:Lim A)(hB:Lim B)(n:Nat)(hn:A.length=n)(hm:B.length=n)(k:Nat)(hk:k<n)(he:∀ i,k<i→i<n→lm A i=lm B i)(hlt:lm A k<lm B k):val A<val B:=by
 have e:∀ m,k+1≤m→m≤n→val (A.take m)<val (B.take m):=by
  intro m hm1
  induction m with
  | zero=>omega
  | succ m ih=>
   intro hm2;rw[jAO,jAO];by_cases hq:m=k
   ·subst hq;have h1:=jCp (jAj hA m);rw[List.length_take,Nat.min_eq_left (by omega)] at h1;have h2:=jAY (jAj hB m);have hp:(0:Int)<10000 ^ m:=Int.pow_pos (by omega);have h3:(10000:Int) ^ m*(lm A m+1)≤10000 ^ m*lm B m:=Int.mul_le_mul_of_nonneg_left (by omega) (by omega);rw[Int.mul_add,Int.mul_one] at h3;omega
   ·have:=ih (by omega) (by omega);rw[he m (by omega) (by omega)];omega
 have:=e n (by omega) (Nat.le_refl n)
 rwa [List.take_of_length_le (by omega),List.take_of_length_le (by omega)] at this
theorem jHD {A B:List Int}(n:Nat)(hn:A.length=n)(hm:B.length=n)(h:∀ i,i<n→lm A i=lm B i):A=B:=by
 unfold lm at *;(refine List.ext_getElem (by omega) fun i h1 h2=>?_);have:=h i (by omega)
 simpa [List.getD_eq_getElem?_getD,h1,h2] using this
theorem jCJ {A B:List Int}(hA:Lim A)(hB:Lim B)(ht:Topped B)(h:A.length<B.length):val A<val B:=by
 have h1:=jCp hA
 have h2:10000 ^ (B.length - 1)≤(val B).toNat:=by
  have e:=jFT hB ht;(have hne:(val B).toNat≠0:=by intro hc;rw[hc,jAl] at e;rw[← e] at h;simp at h);have:=jFQ hne
  rwa [e] at this
 (have h3:(10000:Int) ^ A.length≤10000 ^ (B.length - 1):=by have h4:(10000:Nat) ^ A.length≤10000 ^ (B.length - 1):=Nat.pow_le_pow_right (by omega) (by omega);have e1:((10000 ^ A.length:Nat):Int)=10000 ^ A.length:=Int.natCast_pow 10000 _;have e2:((10000 ^ (B.length - 1):Nat):Int)=10000 ^ (B.length - 1):=Int.natCast_pow 10000 _;omega);have e2:((10000 ^ (B.length - 1):Nat):Int)=10000 ^ (B.length - 1):=Int.natCast_pow 10000 _;have:=jAY hB;omega
set_option linter.unusedSimpArgs false
set_option linter.unusedVariables false
def ltB (a b:Int):Bool:=decide (a<b)
theorem jCD (xs:List Int)(n j:Nat)(h:j<n):lm (xs.take n) j=lm xs j:=by
 unfold lm;simp[List.getD_eq_getElem?_getD,List.getElem?_take,h]
theorem jCA (xs:List Int)(o j:Nat):lm (xs.drop o) j=lm xs (o+j):=by
 unfold lm;simp[List.getD_eq_getElem?_getD,List.getElem?_drop]
theorem jBS {xs:List Int}(h:Lim xs)(n:Nat):Lim (xs.drop n):=fun x hx=>h x (List.mem_of_mem_drop hx)
theorem jCI (R:List Int)(n:Nat)(hn:R.length=n+1):val R=val (R.take n)+10000 ^ n*lm R n:=by
 rw[← jAO,List.take_of_length_le (by omega)]
theorem jIW (R B:List Int)(n:Nat)(hR:Lim R)(hB:Lim B)(hn:R.length=n+1)(hm:B.length=n)(h:0<lm R n):ltB (val R) (val B)=false:=by
 have h1:=jCI R n hn;have h2:=jCp hB;rw[hm] at h2;have h3:=jAY (jAj hR n);have h4:(10000:Int) ^ n*1≤10000 ^ n*lm R n:=Int.mul_le_mul_of_nonneg_left (by omega) (Int.le_of_lt (Int.pow_pos (by omega)));unfold ltB;simp;omega
theorem jJu (R B:List Int)(n:Nat)(hn:R.length=n+1)(hm:B.length=n)(h:lm R n=0)(he:∀ j,j<n→lm R j=lm B j):ltB (val R) (val B)=false:=by
 have h1:=jCI R n hn;have h2:R.take n=B:=jHD n (by simp;omega) hm (fun i hi=>(jCD R n i hi).trans (he i hi));rw[h,h2] at h1;unfold ltB;simp;omega
theorem jJ0 (R B:List Int)(n q:Nat)(hR:Lim R)(hB:Lim B)(hn:R.length=n+1)(hm:B.length=n)(h:lm R n=0)(hq:q<n)(he:∀ j,q<j→j<n→lm R j=lm B j)(hne:lm R q≠lm B q):ltB (val R) (val B)=decide (lm R q<lm B q):=by
 have h1:=jCI R n hn;rw[h,Int.mul_zero,Int.add_zero] at h1;unfold ltB;rw[h1,Bool.eq_iff_iff,decide_eq_true_iff,decide_eq_true_iff];rcases Int.lt_trichotomy (lm R q) (lm B q) with hlt | heq | hgt
 ·have:=jCg (R.take n) B (jAj hR n) hB n (by simp;omega) hm q hq (fun i a b=>(jCD R n i b).trans (he i a b)) (by rw[jCD R n q hq];exact hlt);omega
 ·exact absurd heq hne
 ·have:=jCg B (R.take n) hB (jAj hR n) n hm (by simp;omega) q hq (fun i a b=>((jCD R n i b).trans (he i a b)).symm) (by rw[jCD R n q hq];exact hgt);omega
theorem jIb (D R B:List Int)(i:Nat)(t c left c2:Int)(hk:i<D.length)(hD:lm D i=lm R i)(hl:left - 10000*c2=lm D i - (c+lm B i*t))(h:val (D.take i) - 10000 ^ i*c=val (R.take i) - t*val (B.take i)):val ((D.set i left).take (i+1)) - 10000 ^ (i+1)*c2=val (R.take (i+1)) - t*val (B.take (i+1)):=by
 rw[jBC D i _ hk,jAO,jAO,Int.pow_succ];rw[hD] at hl;generalize (10000:Int) ^ i=P at *
 grind
theorem jJt (D R B:List Int)(n:Nat)(t c:Int)(hD:Lim D)(hR:Lim R)(hc:0≤c)(hk:n<D.length)(hl:lm D n=lm R n)(hm:B.length=n)(hR2:R.length=n+1)(h:val (D.take n) - 10000 ^ n*c=val (R.take n) - t*val (B.take n))(hle:t*val B≤val R):0≤lm D n - c∧lm D n - c<10000∧val ((D.set n (lm D n - c)).take (n+1))=val R - t*val B:=by
 have h1:=jCI R n hR2;have e:B.take n=B:=List.take_of_length_le (by omega);rw[e] at h;have h2:=jBC D n (lm D n - c) hk
 have h3:val ((D.set n (lm D n - c)).take (n+1))=val R - t*val B:=by
  rw[h2,hl];generalize (10000:Int) ^ n=P at *
  grind
 have hb:=jAN hD n;refine ⟨?_,by omega,h3⟩;have h4:=jCp (jAj hD n);rw[List.length_take,Nat.min_eq_left (by omega)] at h4;rw[h2] at h3;have hp:(0:Int)<10000 ^ n:=Int.pow_pos (by omega);by_cases hneg:0≤lm D n - c
 ·exact hneg
 ·exfalso;have h5:(10000:Int) ^ n*(lm D n - c)≤10000 ^ n*(-1):=Int.mul_le_mul_of_nonneg_left (by omega) (by omega);omega
theorem jHn (x t c:Int)(hx:0≤x∧x<10000)(ht:0≤t∧t<10000)(hc:0≤c∧c≤10000):0≤x*t∧x*t≤99980001∧0≤c+x*t∧c+x*t≤99990001:=by
 have h1:0≤x*t:=Int.mul_nonneg hx.1 ht.1;have h2:x*t≤9999*9999:=Int.mul_le_mul (by omega) (by omega) ht.1 (by omega);omega
theorem jKB (R B:List Int)(n:Nat)(hR:Lim R)(hB:Lim B)(hn:R.length=n+2)(hm:B.length=n+1)(g:Int)(hg0:0≤g)(hg:g*(lm B n+1)≤lm R (n+1)*10000+lm R n):g*val B≤val R:=by
 have h1:=jCI R (n+1) hn;have h2:=jAO R n;have h3:=jCI B n hm;have h4:=jAY (jAj hR n);have h5:=jCp (jAj hB n);rw[List.length_take,Nat.min_eq_left (by omega)] at h5;have hp:(0:Int)<10000 ^ n:=Int.pow_pos (by omega);rw[h2,Int.pow_succ] at h1;generalize (10000:Int) ^ n=P at *;generalize val (R.take n)=u at *;generalize val (B.take n)=v at *;generalize lm R (n+1)=r1 at *;generalize lm R n=r0 at *;generalize lm B n=b at *;have k1:g*val B≤g*(P*(b+1)):=Int.mul_le_mul_of_nonneg_left (by rw[h3];grind) hg0;have k2:P*(g*(b+1))≤P*(r1*10000+r0):=Int.mul_le_mul_of_nonneg_left hg (by omega);(have k3:g*(P*(b+1))=P*(g*(b+1)):=by grind);(have k4:val R=u+P*(r1*10000+r0):=by rw[h1];grind);omega
theorem jKR (g V W:Int)(hV:0<V)(h1:g*V≤W)(h2:W<10000*V):g<10000:=by
 by_cases h:g<10000
 ·exact h
 ·exfalso;have:10000*V≤g*V:=Int.mul_le_mul_of_nonneg_right (by omega) (by omega);omega
theorem jLj {B:List Int}(hB:Lim B)(n:Nat)(hm:B.length=n+1)(h:1≤lm B n):0<val B:=by
 have h3:=jCI B n hm;have h4:=jAY (jAj hB n);have hp:(0:Int)<10000 ^ n:=Int.pow_pos (by omega);have:(10000:Int) ^ n*1≤10000 ^ n*lm B n:=Int.mul_le_mul_of_nonneg_left h (by omega);omega
structure Win (Z Z':List Int)(o n:Nat)(d:Int):Prop where
  len:Z'.length=Z.length
  pre:Z'.take o=Z.take o
  post:Z'.drop (o+n)=Z.drop (o+n)
  win:val ((Z'.drop o).take n)=val ((Z.drop o).take n) - d
theorem Win.refl (Z:List Int)(o n:Nat):Win Z Z o n 0:=⟨rfl,rfl,rfl,by omega⟩
theorem Win.trans {Z Z' Z'':List Int} {o n:Nat} {d d':Int} (h:Win Z Z' o n d) (k:Win Z' Z'' o n d'):Win Z Z'' o n (d+d'):=
  ⟨k.len.trans h.len,k.pre.trans h.pre,k.post.trans h.post,by rw[k.win,h.win];omega⟩
theorem jCN (Z:List Int)(n:Nat)(h:n≤Z.length):val Z=val (Z.take n)+10000 ^ n*val (Z.drop n):=by
 have:=jCk (Z.take n) (Z.drop n)
 rwa [List.take_append_drop,List.length_take,Nat.min_eq_left h] at this
theorem Win.drop {Z Z':List Int}{o n:Nat}{d:Int}(h:Win Z Z' o n d)(hn:o+n≤Z.length):val (Z'.drop o)=val (Z.drop o) - d:=by
 have e1:=jCN (Z'.drop o) n (by rw[List.length_drop,h.len];omega);have e2:=jCN (Z.drop o) n (by rw[List.length_drop];omega);rw[List.drop_drop,h.post,h.win] at e1;rw[List.drop_drop] at e2;omega
theorem Win.all {Z Z':List Int}{o n:Nat}{d:Int}(h:Win Z Z' o n d)(hn:o+n≤Z.length):val Z'=val Z - 10000 ^ o*d:=by
 have e1:=jCN Z' o (by rw[h.len];omega);have e2:=jCN Z o (by omega);rw[h.pre,h.drop hn] at e1;rw[e1,e2];grind
theorem jHu (Z:List Int)(i n:Nat)(V:Int)(hZ:Lim Z)(hV:V≤10000 ^ n)(hi:i+n+1≤Z.length)(h:val (Z.drop (i+1))<V):val ((Z.drop i).take (n+1))=val (Z.drop i)∧val (Z.drop i)<10000*V∧val ((Z.drop i).take (n+1))=lm Z i+10000*val (Z.drop (i+1)):=by
 (have e1:val (Z.drop i)=lm Z i+10000*val (Z.drop (i+1)):=by rw[List.drop_eq_getElem_cons (show i<Z.length by omega),val];unfold lm;simp[show i<Z.length by omega]);have hb:=jAN hZ i;have e2:=jCN (Z.drop i) (n+1) (by rw[List.length_drop];omega);have n1:=jAY (jAj (jBS hZ i) (n+1));have n2:=jAY (jBS (jBS hZ i) (n+1));have hp:(0:Int)<10000 ^ n:=Int.pow_pos (by omega)
 have h3:val ((Z.drop i).drop (n+1))=0:=by
  by_cases e:val ((Z.drop i).drop (n+1))=0
  ·exact e
  ·exfalso;have:(10000:Int) ^ (n+1)*1≤10000 ^ (n+1)*val ((Z.drop i).drop (n+1)):=Int.mul_le_mul_of_nonneg_left (by omega) (Int.le_of_lt (Int.pow_pos (by omega)));rw[Int.pow_succ] at this e2;omega
 rw[h3,Int.mul_zero,Int.add_zero] at e2;exact ⟨e2.symm,by omega,by omega⟩
theorem jJM (a b q r:Nat)(h:a=q*b+r)(hr:r<b):q=a / b∧r=a % b:=by
 (have hb:0<b:=by omega);subst h;constructor
 ·rw[Nat.mul_comm,Nat.mul_add_div hb,Nat.div_eq_of_lt hr];omega
 ·rw[Nat.mul_comm,Nat.mul_add_mod,Nat.mod_eq_of_lt hr]
open Go.Lib (decDigits)
def dv (l:List UInt8):Nat:=l.foldl (fun a c=>a*10+(c.toNat - 48)) 0
theorem jLL (l:List UInt8)(a:Nat):l.foldl (fun a c=>a*10+(c.toNat - 48)) a=a*10 ^ l.length+dv l:=by
 induction l generalizing a with
 | nil=>simp[dv]
 | cons c l ih=>
  unfold dv;simp only[List.foldl_cons,List.length_cons,Nat.pow_succ];rw[ih,ih (0*10+(c.toNat - 48))]
  grind
theorem jD4 (a b:List UInt8):dv (a ++ b)=dv a*10 ^ b.length+dv b:=by
 have:=jLL b (dv a);unfold dv at this ⊢;rw[List.foldl_append];exact this
theorem jKt:dv [] =0:=rfl
theorem jI5 (c:UInt8):dv [c]=c.toNat - 48:=by simp[dv]
theorem jGY (a:List UInt8)(c:UInt8):dv (a ++ [c])=dv a*10+(c.toNat - 48):=by rw[jD4,jI5];simp
def isDig (c:UInt8):Bool:=decide (48≤c.toNat) && decide (c.toNat≤57)
def wholeB (l:List UInt8):Bool:=!l.isEmpty && l.all isDig && (l.length == 1 || l.head? != some 48)
theorem jBL (c:UInt8):isDig c=true↔48≤c.toNat∧c.toNat≤57:=by simp[isDig]
theorem jC7 {n:Nat}(h:n<10):decDigits n = [UInt8.ofNat (48+n)]:=by rw[decDigits,dif_pos h]
theorem jDW {n:Nat}(h:¬ n<10):decDigits n=decDigits (n / 10) ++ [UInt8.ofNat (48+n % 10)]:=by rw[decDigits,dif_neg h]
theorem jBK (n:Nat)(h:n<10):(UInt8.ofNat (48+n)).toNat=48+n:=by
 rw[UInt8.toNat_ofNat'];omega
theorem jKN (l:List UInt8)(h:l.all isDig=true):dv l<10 ^ l.length:=by
 induction l with
 | nil=>simp[dv]
 | cons c l ih=>rw[List.all_cons,Bool.and_eq_true,jBL] at h;have:=ih h.2;have e:=jD4 [c] l;rw[List.singleton_append,jI5] at e;rw[e,List.length_cons,Nat.pow_succ];have:(c.toNat - 48)*10 ^ l.length≤9*10 ^ l.length:=Nat.mul_le_mul_right _ (by omega);omega
theorem jBQ (l:List UInt8):wholeB l=true↔l≠[]∧l.all isDig=true∧(l.length=1∨l.head?≠some 48):=by
 unfold wholeB
 cases l with
 | nil=>simp
 | cons c l=>simp[and_assoc]
theorem jEj (n:Nat):decDigits n≠[]∧(decDigits n).all isDig=true∧dv (decDigits n)=n∧(n≠0→(decDigits n).head?≠some 48):=by
 induction n using Nat.strongRecOn with
 | ind n ih=>
  by_cases h:n<10
  ·rw[jC7 h];refine ⟨by simp,?_,?_,?_⟩
   ·simp only[List.all_cons,List.all_nil,Bool.and_true,jBL,jBK n h];omega
   ·rw[jI5,jBK n h];omega
   ·intro h0 hc;rw[List.head?_cons] at hc;have:=congrArg UInt8.toNat (Option.some.inj hc);rw[jBK n h] at this;have e:(48:UInt8).toNat=48:=rfl;omega
  ·obtain ⟨a,b,c,d⟩:=ih (n / 10) (by omega);rw[jDW h];refine ⟨by simp,?_,?_,?_⟩
   ·rw[List.all_append,b];simp only[List.all_cons,List.all_nil,Bool.and_true,Bool.true_and,jBL,jBK (n % 10) (by omega)];omega
   ·rw[jGY,c,jBK _ (by omega)];omega
   ·intro _;have:=d (by omega)
    cases hq:decDigits (n / 10) with
    | nil=>exact absurd hq a
    | cons e l=>rw[hq] at this;simpa using this
theorem jHN (n:Nat):dv (decDigits n)=n:=(jEj n).2.2.1
theorem jEN (n:Nat):wholeB (decDigits n)=true:=by
 obtain ⟨a,b,c,d⟩:=jEj n;rw[jBQ];refine ⟨a,b,?_⟩;by_cases h:n=0
 ·left;subst h;rw[jC7 (by omega)];rfl
 ·right;exact d h
def pad4 (m:Nat):List UInt8:=[UInt8.ofNat (48+m / 1000 % 10),UInt8.ofNat (48+m / 100 % 10),UInt8.ofNat (48+m / 10 % 10),UInt8.ofNat (48+m % 10)]
theorem jK9 (a m:Nat)(ha:1≤a)(hm:m<10000):decDigits (m+10000*a)=decDigits a ++ pad4 m:=by
 rw[jDW (by omega),jDW (n:=(m+10000*a) / 10) (by omega),jDW (n:=(m+10000*a) / 10 / 10) (by omega),jDW (n:=(m+10000*a) / 10 / 10 / 10) (by omega)];(have e1:(m+10000*a) / 10 / 10 / 10 / 10=a:=by omega);(have e2:(m+10000*a) / 10 / 10 / 10 % 10=m / 1000 % 10:=by omega);(have e3:(m+10000*a) / 10 / 10 % 10=m / 100 % 10:=by omega);(have e4:(m+10000*a) / 10 % 10=m / 10 % 10:=by omega);(have e5:(m+10000*a) % 10=m % 10:=by omega);rw[e1,e2,e3,e4,e5];simp[pad4]
theorem jBj {n k:Nat}(hk:1≤k)(h:n<10 ^ k):(decDigits n).length≤k:=by
 induction k generalizing n with
 | zero=>omega
 | succ k ih=>
  by_cases h1:n<10
  ·rw[jC7 h1];simp
  ·rw[jDW h1,List.length_append,List.length_singleton]
   have hk1:1≤k:=by
    rcases Nat.eq_zero_or_pos k with h0 | h0
    ·subst h0;simp at h;omega
    ·exact h0
   have:=@ih (n / 10) hk1 (by rw[Nat.pow_succ] at h;omega);omega
theorem jHj (l:List UInt8)(e k:Nat)(o:List Int)(hk:k<o.length)(he:e≤l.length)(h:(dv l:Int)=dv (l.take e)*10000 ^ k+val (o.take k)):(dv l:Int)=dv (l.take (e - 4))*10000 ^ (k+1)+val ((o.set k (dv ((l.take e).drop (e - 4)):Nat)).take (k+1)):=by
 rw[jBC o k _ hk,Int.pow_succ]
 have e1:l.take e=l.take (e - 4) ++ (l.take e).drop (e - 4):=by
  have:=(List.take_append_drop (e - 4) (l.take e)).symm
  rwa [List.take_take,Nat.min_eq_left (by omega)] at this
 by_cases h4:4≤e
 ·(have hl:((l.take e).drop (e - 4)).length=4:=by rw[List.length_drop,List.length_take];omega);(have e2:dv (l.take e)=dv (l.take (e - 4))*10000+dv ((l.take e).drop (e - 4)):=by have:=jD4 (l.take (e - 4)) ((l.take e).drop (e - 4));rw[← e1,hl] at this;exact this);rw[h,e2,Int.natCast_add,Int.natCast_mul];generalize (10000:Int) ^ k=P at *
  grind
 ·(have e2:e - 4=0:=by omega);rw[h,e2,List.take_zero,jKt,List.drop_zero];generalize (10000:Int) ^ k=P at *
  grind
def sg (m:Bool)(x:Nat):Int:=if m then -(x:Int) else x
def negB (q:Rat):Bool:=decide (q.num<0)
theorem jCT (m:Bool)(x:Nat):(sg m x).natAbs=x:=by cases m <;> simp[sg]
theorem jKr (m:Bool)(x y:Nat)(hy:y≠0):(mkRat (sg m x) y).num.natAbs=x / Nat.gcd x y∧(mkRat (sg m x) y).den=y / Nat.gcd x y∧negB (mkRat (sg m x) y)=(m && !(x / Nat.gcd x y == 0)):=by
 have hd:Nat.gcd x y ∣ x:=Nat.gcd_dvd_left x y;have hg:0<Nat.gcd x y:=Nat.gcd_pos_of_pos_right x (by omega);have e:mkRat (sg m x) y=Rat.normalize (sg m x) y hy:=by unfold mkRat;rw[dif_neg hy]
 have hn:(mkRat (sg m x) y).num=sg m (x / Nat.gcd x y):=by
  rw[e,Rat.normalize_eq];simp only[jCT];obtain ⟨k,hk⟩:=hd;rw[Nat.div_eq_of_eq_mul_right hg hk]
  cases m
  ·simp only[sg,Bool.false_eq_true,if_false];rw[← Int.natCast_ediv,Nat.div_eq_of_eq_mul_right hg hk]
  ·simp only[sg,if_true];(have:((x:Int))=(k:Int)*(Nat.gcd x y:Int):=by have:=congrArg (Int.ofNat) hk;simp only[Int.ofNat_eq_natCast] at this;rw[Nat.mul_comm,Int.natCast_mul] at this;exact this);rw[this,Int.neg_mul_eq_neg_mul];exact Int.mul_ediv_cancel _ (by omega)
 refine ⟨by rw[hn,jCT],?_,?_⟩
 ·rw[e,Rat.normalize_eq];simp only[jCT]
 ·unfold negB;rw[hn];generalize x / Nat.gcd x y=t
  cases m
  ·simp[sg]
  ·simp only[sg,if_true,Bool.true_and];rw[Bool.eq_iff_iff];simp;omega
theorem jCq (q:Rat):q.num=sg (negB q) q.num.natAbs:=by
 unfold sg negB;by_cases h:q.num<0 <;> simp[h] <;> omega
theorem jKq (q:Rat):mkRat (sg (negB q) q.num.natAbs) q.den=q:=by rw[← jCq];exact Rat.mkRat_self q
theorem jF2 (x y:Rat):x+y=mkRat (sg (negB x) (x.num.natAbs*y.den)+sg (negB y) (y.num.natAbs*x.den)) (x.den*y.den):=by
 have h:=Rat.mkRat_add_mkRat x.num y.num x.den_nz y.den_nz;rw[Rat.mkRat_self,Rat.mkRat_self] at h;rw[h];congr 1;(have e:∀ (m:Bool) (a b:Nat),sg m (a*b)=sg m a*b:=by intro m a b;cases m <;> simp[sg,Int.neg_mul]);rw[e,e,← jCq,← jCq]
theorem jLG (m:Bool)(a b:Nat):sg m a+sg m b=sg m (a+b):=by cases m <;> simp[sg];omega
theorem jK2 (m k:Bool)(a b:Nat)(h:m≠k)(hab:b≤a):sg m a+sg k b=sg m (a - b):=by
 cases m <;> cases k <;> simp_all [sg] <;> omega
theorem jLC (m k:Bool)(a b:Nat)(h:m≠k)(hab:a≤b):sg m a+sg k b=sg k (b - a):=by
 cases m <;> cases k <;> simp_all [sg] <;> omega
theorem jIX (x y:Rat):x*y=mkRat (sg (negB x != negB y) (x.num.natAbs*y.num.natAbs)) (x.den*y.den):=by
 have h:=Rat.mkRat_mul_mkRat x.num y.num x.den y.den;rw[Rat.mkRat_self,Rat.mkRat_self] at h;rw[h];congr 1;(have e:∀ (m k:Bool) (a b:Nat),sg (m != k) (a*b)=sg m a*sg k b:=by intro m k a b;cases m <;> cases k <;> simp[sg,Int.neg_mul,Int.mul_neg]);rw[e,← jCq,← jCq]
theorem jB8 (q:Rat):1≤q.den:=Nat.pos_of_ne_zero q.den_nz
theorem jDu (q:Rat):q.num.natAbs=0↔q=0:=by
 rw[Int.natAbs_eq_zero];exact Rat.num_eq_zero
theorem jLu (y:Rat)(hy:y≠0):y⁻¹ = mkRat (sg (negB y) y.den) y.num.natAbs:=by
 (have h0:y.num.natAbs≠0:=fun h=>hy ((jDu y).1 h));rw[Rat.inv_def];unfold sg negB;by_cases h:y.num<0
 ·simp only[h,decide_true,if_true];(have e:y.num = -((y.num.natAbs:Nat):Int):=by omega);rw[e,Rat.divInt_neg',Int.natAbs_neg,Int.natAbs_natCast];exact Rat.divInt_ofNat _ _
 ·simp only[h,decide_false,Bool.false_eq_true,if_false];(have e:y.num=((y.num.natAbs:Nat):Int):=by omega);rw[e,Int.natAbs_natCast];exact Rat.divInt_ofNat _ _
theorem jI8 (x y:Rat)(hy:y≠0):x / y=mkRat (sg (negB x != negB y) (x.num.natAbs*y.den)) (x.den*y.num.natAbs):=by
 rw[Rat.div_def,jLu y hy];have h:=Rat.mkRat_mul_mkRat x.num (sg (negB y) y.den) x.den y.num.natAbs;rw[Rat.mkRat_self] at h;rw[h];congr 1;(have e:∀ (m k:Bool) (a b:Nat),sg (m != k) (a*b)=sg m a*sg k b:=by intro m k a b;cases m <;> cases k <;> simp[sg,Int.neg_mul,Int.mul_neg]);rw[e,← jCq]
def txt (q:Rat):List UInt8:=(if negB q then [45] else []) ++ decDigits q.num.natAbs ++ (if 1<q.den then 47 :: decDigits q.den else [])
def slashAt (l:List UInt8):Nat:=(l.takeWhile (fun c=>c != 47)).length
theorem jEu (l:List UInt8):slashAt l≤l.length:=by
 unfold slashAt;exact (List.takeWhile_sublist _).length_le
def lowB (x y:Nat):Bool:=decide (1<y) && (Nat.gcd x y == 1)
def zeroB (neg:Bool)(x:Nat):Bool:=neg && (x == 0)
def parseU (neg:Bool)(t:List UInt8):Option Rat:=
  if wholeB (t.take (slashAt t)) then
    if zeroB neg (dv (t.take (slashAt t))) then none
    else if slashAt t=t.length then some (mkRat (sg neg (dv (t.take (slashAt t)))) 1)
    else if wholeB (t.drop (slashAt t+1)) then
      if lowB (dv (t.take (slashAt t))) (dv (t.drop (slashAt t+1))) then some (mkRat (sg neg (dv (t.take (slashAt t)))) (dv (t.drop (slashAt t+1)))) else none
    else none
  else none
def parseL (l:List UInt8):Option Rat:=if l.head? = some 45 then parseU true l.tail else parseU false l
def readL (l:List UInt8):Option Rat:=if l.length≤300 then parseL l else none
theorem jB4 (m:Bool)(x y:Nat)(hy:y≠0)(hg:Nat.gcd x y=1)(hz:zeroB m x=false):(mkRat (sg m x) y).num.natAbs=x∧(mkRat (sg m x) y).den=y∧negB (mkRat (sg m x) y)=m:=by
 obtain ⟨h1,h2,h3⟩:=jKr m x y hy;rw[hg,Nat.div_one] at h1 h2 h3;refine ⟨h1,h2,?_⟩;rw[h3];unfold zeroB at hz
 cases m
 ·rfl
 ·simpa using hz
theorem jFc {l:List UInt8}(h:l.all isDig=true):slashAt l=l.length:=by
 unfold slashAt
 have:l.takeWhile (fun c=>c != 47)=l:=by
  induction l with
  | nil=>rfl
  | cons c l ih=>rw[List.all_cons,Bool.and_eq_true,jBL] at h;(have hc:(c != 47)=true:=by rw[bne_iff_ne];intro e;rw[e] at h;have:(47:UInt8).toNat=47:=rfl;omega);rw[List.takeWhile_cons,if_pos hc,ih h.2]
 rw[this]
theorem jGG {a b:List UInt8}(h:a.all isDig=true):slashAt (a ++ 47 :: b)=a.length:=by
 unfold slashAt
 have:(a ++ 47 :: b).takeWhile (fun c=>c != 47)=a:=by
  induction a with
  | nil=>rfl
  | cons c l ih=>rw[List.all_cons,Bool.and_eq_true,jBL] at h;(have hc:(c != 47)=true:=by rw[bne_iff_ne];intro e;rw[e] at h;have:(47:UInt8).toNat=47:=rfl;omega);rw[List.cons_append,List.takeWhile_cons,if_pos hc,ih h.2]
 rw[this]
theorem jC4 {l:List UInt8}(h:wholeB l=true):l.all isDig=true:=((jBQ l).1 h).2.1
theorem jHe (q:Rat):parseU (negB q) (decDigits q.num.natAbs ++ (if 1<q.den then 47 :: decDigits q.den else []))=some q:=by
 have hw:=jEN q.num.natAbs
 have hz:zeroB (negB q) q.num.natAbs=false:=by
  unfold zeroB negB;by_cases h:q.num<0
  ·rw[decide_eq_true h,beq_eq_false_iff_ne.2 (by omega:q.num.natAbs≠0)];rfl
  ·rw[decide_eq_false h];rfl
 by_cases hd:1<q.den
 ·rw[if_pos hd];have hs:slashAt (decDigits q.num.natAbs ++ 47 :: decDigits q.den)=(decDigits q.num.natAbs).length:=jGG (jC4 hw);unfold parseU;rw[hs];have e1:(decDigits q.num.natAbs ++ 47 :: decDigits q.den).take (decDigits q.num.natAbs).length=decDigits q.num.natAbs:=List.take_left;(have e2:(decDigits q.num.natAbs ++ 47 :: decDigits q.den).drop ((decDigits q.num.natAbs).length+1)=decDigits q.den:=by rw[← List.drop_drop,List.drop_left];rfl);(have hl:lowB q.num.natAbs q.den=true:=by unfold lowB;have:=q.reduced;unfold Nat.Coprime at this;simp[hd,this]);(have hne:¬ (decDigits q.num.natAbs).length=(decDigits q.num.natAbs ++ 47 :: decDigits q.den).length:=by simp);rw[e1,e2,hw,jEN,jHN,jHN,hz,hl,if_neg hne,jKq];simp
 ·(have h1:q.den=1:=by have:=jB8 q;omega);rw[if_neg hd,List.append_nil];unfold parseU;rw[jFc (jC4 hw),List.take_length,hw,jHN,hz];simp;rw[← h1,jKq]
theorem jE5 (q:Rat):parseL (txt q)=some q:=by
 have h:=jHe q;unfold parseL txt
 cases hn:negB q with
 | true=>rw[hn] at h;simp only[if_true,List.singleton_append,List.cons_append,List.head?_cons,List.tail_cons];exact h
 | false=>
  rw[hn] at h;simp only[Bool.false_eq_true,if_false,List.nil_append];rw[if_neg]
  ·exact h
  ·have hw:=jEN q.num.natAbs;have h1:=jC4 hw;have h2:=((jBQ _).1 hw).1
   cases hq:decDigits q.num.natAbs with
   | nil=>exact absurd hq h2
   | cons c l=>rw[hq,List.all_cons,Bool.and_eq_true,jBL] at h1;intro hc;simp at hc;rw[hc] at h1;have:(45:UInt8).toNat=45:=rfl;omega
theorem jFt (q:Rat)(h:(txt q).length≤300):readL (txt q)=some q:=by unfold readL;rw[if_pos h];exact jE5 q
end Go.Proofs.YtigokanoflkinabGreatDoor.Por
namespace Go.Proofs.YtigokanoflkinabGreatDoor
set_option linter.unusedSimpArgs false
set_option linter.unusedVariables false
open Por
open Go.Lib (decDigits)
theorem jIq (n:Int):txt (n:Rat)=Go.Lib.itoa n:=by
 unfold txt Go.Lib.itoa negB;have e1:(n:Rat).num=n:=Rat.num_intCast n;have e2:(n:Rat).den=1:=Rat.den_intCast n;rw[e1,e2];by_cases h:n<0
 ·simp[h]
 ·simp only[h,decide_false,Bool.false_eq_true,if_false,List.nil_append,Nat.lt_irrefl,List.append_nil];congr 1;omega
def Dg (q:Rat)(k:Nat):Prop:=q.num.natAbs<10 ^ k∧q.den<10 ^ k
theorem Dg.txt {q:Rat}{k:Nat}(h:Dg q k)(hk:1≤k):(txt q).length≤2*k+2:=by
 have h1:=jBj hk h.1;have h2:=jBj hk h.2;unfold Por.txt;by_cases hn:negB q=true <;> by_cases hd:1<q.den <;> simp[hn,hd] <;> omega
theorem jJx (n:Int)(d:Nat)(hd:d≠0):(mkRat n d).num.natAbs≤n.natAbs∧(mkRat n d).den≤d:=by
 (have e:mkRat n d=Rat.normalize n d hd:=by unfold mkRat;rw[dif_neg hd]);rw[e,Rat.normalize_eq];exact ⟨Int.natAbs_ediv_le_natAbs _ _,Nat.div_le_self _ _⟩
theorem jEV {a b i j:Nat}(ha:a<10 ^ i)(hb:b<10 ^ j):a*b<10 ^ (i+j):=by
 rw[Nat.pow_add];exact Nat.mul_lt_mul_of_lt_of_lt ha hb
theorem Dg.add {x y:Rat}{a b:Nat}(hx:Dg x a)(hy:Dg y b):Dg (x+y) (a+b+1):=by
 rw[jF2];obtain ⟨h1,h2⟩:=jJx (sg (negB x) (x.num.natAbs*y.den)+sg (negB y) (y.num.natAbs*x.den)) (x.den*y.den) (Nat.mul_ne_zero x.den_nz y.den_nz);have l1:=jEV hx.1 hy.2;have l2:=jEV hy.1 hx.2;have l3:=jEV hx.2 hy.2;have l4:=Int.natAbs_add_le (sg (negB x) (x.num.natAbs*y.den)) (sg (negB y) (y.num.natAbs*x.den));rw[jCT,jCT] at l4;rw[Nat.add_comm b a] at l2;have hp:10 ^ (a+b+1)=10 ^ (a+b)*10:=Nat.pow_succ _ _;exact ⟨by omega,by omega⟩
theorem Dg.neg {x:Rat}{a:Nat}(hx:Dg x a):Dg (-x) a:=by
 have e1:(-x).num = -x.num:=rfl;have e2:(-x).den=x.den:=rfl;unfold Dg;rw[e1,e2,Int.natAbs_neg];exact hx
theorem Dg.sub {x y:Rat}{a b:Nat}(hx:Dg x a)(hy:Dg y b):Dg (x - y) (a+b+1):=by rw[Rat.sub_eq_add_neg];exact hx.add hy.neg
theorem Dg.mul {x y:Rat}{a b:Nat}(hx:Dg x a)(hy:Dg y b):Dg (x*y) (a+b):=by
 rw[jIX];obtain ⟨h1,h2⟩:=jJx (sg (negB x != negB y) (x.num.natAbs*y.num.natAbs)) (x.den*y.den) (Nat.mul_ne_zero x.den_nz y.den_nz);rw[jCT] at h1;have l1:=jEV hx.1 hy.1;have l3:=jEV hx.2 hy.2;exact ⟨by omega,by omega⟩
theorem Dg.div {x y:Rat}{a b:Nat}(hx:Dg x a)(hy:Dg y b)(h0:y≠0):Dg (x / y) (a+b):=by
 rw[jI8 x y h0];obtain ⟨h1,h2⟩:=jJx (sg (negB x != negB y) (x.num.natAbs*y.den)) (x.den*y.num.natAbs) (Nat.mul_ne_zero x.den_nz (fun h=>h0 ((jDu y).1 h)));rw[jCT] at h1;have l1:=jEV hx.1 hy.2;have l3:=jEV hx.2 hy.1;exact ⟨by omega,by omega⟩
theorem Dg.int (n:Int)(h0:-9223372036854775808≤n)(h1:n≤9223372036854775807):Dg (n:Rat) 19:=by
 have e1:(n:Rat).num=n:=Rat.num_intCast n;have e2:(n:Rat).den=1:=Rat.den_intCast n;unfold Dg;rw[e1,e2];exact ⟨by omega,by omega⟩
theorem Dg.ok {q:Rat}{k:Nat}(h:Dg q k)(hk:1≤k)(hk2:k≤149):readL (⟨(Por.txt q).toArray⟩:ByteArray).data.toList=some q:=by
 have:=h.txt hk;exact jFt q (by omega)
end Go.Proofs.YtigokanoflkinabGreatDoor
