/- WRall, WFeas, FSml, joined. -/
import Derived.Test.YtigokanoflkinabGreatDoorWRise
import Derived.Test.YtigokanoflkinabGreatDoorWStart
import Derived.Test.YtigokanoflkinabGreatDoorWHg
set_option maxHeartbeats 2000000
set_option maxRecDepth 20000
namespace Go.Proofs.YtigokanoflkinabGreatDoor
set_option linter.unusedSimpArgs false
set_option linter.unusedVariables false
open Go.RowKit Por
def strs (ss:List ByteArray):List Value:=ss.map Value.string
def sv (s:ByteArray):Rat:=(xF s.data.toList).getD 0
theorem jCB {pool:List Int}{us:List Usr}(h:yF pool us=0):poolB pool=true/\us.length<=6/\Good us pool.length/\(∀ i,yE (lm pool i)=true)/\1<=pool.length/\pool.length<=4:=by
 unfold yF at h;split at h
 ·omega
 ·rename_i d;split at h
  ·omega
  ·rename_i f;split at h
   ·omega
   ·rename_i e;(have a:poolB pool=true:=by simpa using d);(have b:us.all (yN pool.length)=true:=by simpa using e);have c:=a;unfold poolB at c;simp only[Bool.and_eq_true,decide_eq_true_eq] at c;refine ⟨a,by omega,fun i hi=>?_,jGq c.2,c.1.1,c.1.2⟩;rw[<- jLy us hi];rw[List.all_eq_true] at b;exact b _ (List.getElem_mem hi)
theorem jHA (pool:List Int)(us:List Usr):yF pool us=0∨yF pool us=3∨yF pool us=4:=by
 unfold yF;split
 ·exact Or.inr (Or.inl rfl)
 ·split
  ·exact Or.inr (Or.inr rfl)
  ·split
   ·exact Or.inr (Or.inr rfl)
   ·exact Or.inl rfl
def xP (pool:List Int)(us:List Usr):Prob:=⟨us.length,pool.length,fun r=>((lm pool r:Int):Rat),fun i r=>dm us i r,fun i=>(((ug us i).wt:Int):Rat),fun i=>(((ug us i).cap:Int):Rat)⟩
theorem jC6 {n:Int}(h:0<=n):(0:Rat)<=(n:Rat):=Rat.intCast_nonneg.2 h
theorem jEF {a b:Int}:(a:Rat)<=(b:Rat)↔a<=b:=Rat.intCast_le_intCast
theorem jNG {a b:Int}:(a:Rat)<(b:Rat)↔a<b:=Rat.intCast_lt_intCast
theorem jDt {n:Int}:(0:Rat)<(n:Rat)↔0<n:=by
 have e:(0:Rat)=((0:Int):Rat):=rfl;rw[e];exact jNG
theorem jGc {pool:List Int}{us:List Usr}(hg:Good us pool.length)(hpa:∀ i,yE (lm pool i)=true):(xP pool us).Ok:=by
 refine ⟨fun r hr=>jC6 (jBW (hpa r)).1,fun i r hi hr=>jC6 (jBW (hg.dem hi r)).1,fun i hi=>jDt.2 (by have:=(hg.wt (i:=i) hi).1;omega),fun i hi=>jC6 (hg.cap (i:=i) hi).1⟩
theorem jJj {f:Nat->Rat}{dem:List Int}{v:Rat}:∀ k,v∈enL f dem k↔∃ r,r<k/\lm dem r≠0/\v=f r / ((lm dem r:Int):Rat):=by
 intro k
 induction k with
 | zero=>simp[enL]
 | succ k ih=>
  simp only[enL];split
  ·rename_i e;rw[ih];constructor
   ·rintro ⟨i,d,a⟩;exact ⟨i,by omega,a⟩
   ·rintro ⟨i,d,a,b⟩;by_cases c:i=k
    ·subst c;exact absurd e a
    ·exact ⟨i,by omega,a,b⟩
  ·rename_i e;rw[List.mem_append,ih,List.mem_singleton];constructor
   ·rintro (⟨i,d,a⟩ | h)
    ·exact ⟨i,by omega,a⟩
    ·exact ⟨k,by omega,e,h⟩
   ·rintro ⟨i,d,a,b⟩;by_cases c:i=k
    ·subst c;exact Or.inr b
    ·exact Or.inl ⟨i,by omega,a,b⟩
theorem jIE (pool:List Int)(us:List Usr)(kk i:Nat):yf pool us kk i=yM (enL (zp pool) (ug us i).dem kk)*(((ug us i).wt:Int):Rat):=by
 unfold yf rateQ;rw[jGQ];rfl
theorem jDi {pool:List Int}{us:List Usr}(hg:Good us pool.length){i:Nat}(hi:i<us.length):∃ r,r<pool.length/\0<lm (ug us i).dem r/\yf pool us pool.length i*dm us i r=(((ug us i).wt:Int):Rat)*((lm pool r:Int):Rat):=by
 obtain ⟨j,c,a⟩:=hg.some hi;have b:enL (zp pool) (ug us i).dem pool.length≠[]:=List.length_pos_iff.1 (jKC a _ c);obtain ⟨r,g,d,f⟩:=(jJj _).1 (jFT b);have e:=jBW (hg.dem hi r);refine ⟨r,g,by omega,?_⟩;rw[jIE,f];have h:=jBz d;unfold zp
 grind
theorem jDb {pool:List Int}{us:List Usr}(hg:Good us pool.length)(hpa:∀ i,yE (lm pool i)=true):Rate (xP pool us) (yf pool us pool.length):=by
 have h:=jGc hg hpa;refine ⟨fun i hi=>?_,fun i r hi b hD=>?_,fun i hi=>?_⟩
 ·obtain ⟨r,b,d,g⟩:=jDi hg hi;have f:(0:Rat)<dm us i r:=jDt.2 d;apply jCI (c:=dm us i r) _ f;rw[g,Rat.zero_mul];exact Rat.mul_nonneg (by have:=h.W0 i hi;exact Rat.le_of_lt this) (h.P0 r b)
 ·have d:0<lm (ug us i).dem r:=jDt.1 hD;(have a:lm (ug us i).dem r≠0:=by omega);have f:=jFG (l:=enL (zp pool) (ug us i).dem pool.length) ((jJj _).2 ⟨r,b,a,rfl⟩);have j:=jBi f (show (0:Rat)<=dm us i r from jC6 (by omega));have k:zp pool r / ((lm (ug us i).dem r:Int):Rat)*dm us i r=zp pool r:=jDL (jBz a);rw[k] at j;have m:=jA7 j (show (0:Rat)<=(((ug us i).wt:Int):Rat) from Rat.le_of_lt (h.W0 i hi));show yf pool us pool.length i*dm us i r<=(((ug us i).wt:Int):Rat)*((lm pool r:Int):Rat);rw[jIE];(have e:yM (enL (zp pool) (ug us i).dem pool.length)*(((ug us i).wt:Int):Rat)*dm us i r=(((ug us i).wt:Int):Rat)*(yM (enL (zp pool) (ug us i).dem pool.length)*dm us i r):=by grind);rw[e];exact m
 ·obtain ⟨r,b,d,g⟩:=jDi hg hi;exact ⟨r,b,jDt.2 d,g⟩
theorem jJu {pool:List Int}{us:List Usr}(hg:Good us pool.length)(hpa:∀ i,yE (lm pool i)=true){i:Nat}(hi:i<us.length):yf pool us pool.length i<=((1000000:Nat):Rat):=by
 obtain ⟨r,o,n,k⟩:=jDi hg hi;have e:=(jDb hg hpa).pos i hi;have f:((1:Int):Rat)<=dm us i r:=jEF.2 (by omega);have a:=jA7 f e;have l:=hg.wt hi;have b:=jBW (hpa r);rw[k] at a;have g:(((ug us i).wt:Int):Rat)*((lm pool r:Int):Rat)=(((ug us i).wt*lm pool r:Int):Rat):=(Rat.intCast_mul _ _).symm;rw[g] at a;(have h:(ug us i).wt*lm pool r<=1000000:=by have m:=Int.mul_le_mul l.2 b.2 b.1 (by omega);omega);have j:=jEF.2 h;have c:((1:Int):Rat)=1:=rfl;have d:((1000000:Int):Rat)=((1000000:Nat):Rat):=rfl;rw[c] at a;rw[d] at j
 grind
theorem jJ5 {x:Rat}{Q M:Nat}(hQ:0<Q)(h:isInt (Q*x))(h0:0<=x)(h1:x<=(M:Rat)):x.num.natAbs<=Q*M/\x.den<=Q:=by
 obtain ⟨z,b⟩:=h;(have g:(Q:Rat)≠0:=by have:=jLE hQ;grind);(have e:x=mkRat z Q:=by rw[Rat.mkRat_eq_div];(have:x=(z:Rat) / ((Q:Nat):Rat):=by rw[<- b];grind);exact this);have a:=jLj z Q (by omega);rw[<- e] at a;refine ⟨Nat.le_trans a.1 ?_,a.2⟩;(have d:(0:Rat)<=(z:Rat):=by rw[<- b];exact Rat.mul_nonneg (jEr _) h0);(have f:(z:Rat)<=((Q*M:Nat):Rat):=by rw[<- b,jHv];exact jA7 h1 (jEr _));have i:(0:Int)<=z:=Rat.intCast_nonneg.1 d;(have j:z<=((Q*M:Nat):Int):=by have c:(((Q*M:Nat):Int):Rat)=((Q*M:Nat):Rat):=rfl;exact jEF.1 (by rw[c];exact f));omega
def prodN (e:Nat->Nat):Nat->Nat
  | 0=>1
  | n+1=>prodN e n*e n
theorem jKI {e:Nat->Nat}{n:Nat}(h:∀ i,i<n->0<e i):0<prodN e n:=by
 induction n with
 | zero=>exact Nat.one_pos
 | succ n ih=>exact Nat.mul_pos (ih (fun i hi=>h i (by omega))) (h n (by omega))
theorem jKh {e:Nat->Nat}{n B:Nat}(h:∀ i,i<n->e i<=B):prodN e n<=B ^ n:=by
 induction n with
 | zero=>exact Nat.le_refl _
 | succ n ih=>rw[Nat.pow_succ];exact Nat.mul_le_mul (ih (fun i hi=>h i (by omega))) (h n (by omega))
theorem jJE {e:Nat->Nat}{g:Nat->Rat}{n:Nat}(h:∀ i,i<n->isInt (e i*g i)):∀ i,i<n->isInt (prodN e n*g i):=by
 induction n with
 | zero=>intro i b;omega
 | succ n ih=>
  intro i b;have c:((prodN e (n+1):Nat):Rat)=(prodN e n:Rat)*(e n:Rat):=jHv _ _;rw[c];by_cases d:i=n
  ·subst d;have:=(isInt.nat (prodN e i)).mul (h i (by omega));(have a:(prodN e i:Rat)*(e i:Rat)*g i=prodN e i*(e i*g i):=by grind);rw[a];exact this
  ·have:=(ih (fun i b=>h i (by omega)) i (by omega)).mul (isInt.nat (e n));(have a:(prodN e n:Rat)*(e n:Rat)*g i=prodN e n*g i*e n:=by grind);rw[a];exact this
theorem jGj {pool:List Int}{us:List Usr}(hg:Good us pool.length)(hn:us.length<=6):∃ G:Nat,0<G/\G<=10000 ^ 6/\(∀ i,i<us.length->isInt (G*yf pool us pool.length i))/\∀ i,i<us.length->∃ q:Nat,0<q/\q<=10000/\isInt (q*yf pool us pool.length i):=by
 classical
 have a:∀ i,i<us.length->∃ q:Nat,0<q/\q<=10000/\isInt (q*yf pool us pool.length i):=fun i hi=>by obtain ⟨r,g,f,b⟩:=jDi hg hi;have d:=jBW (hg.dem hi r);refine ⟨(lm (ug us i).dem r).toNat,by omega,by omega,?_⟩;(have c:(((lm (ug us i).dem r).toNat:Nat):Rat)=dm us i r:=by (have:(((lm (ug us i).dem r).toNat:Nat):Int)=lm (ug us i).dem r:=by omega);show ((((lm (ug us i).dem r).toNat:Nat):Int):Rat)=_;rw[this]);rw[c,Rat.mul_comm,b];exact isInt.mul ⟨_,rfl⟩ ⟨_,rfl⟩
 let e:Nat->Nat:=fun i=>if h:i<us.length then (a i h).choose else 1
 (have b:∀ i,i<us.length->0<e i/\e i<=10000/\isInt (e i*yf pool us pool.length i):=fun i hi=>by simp only[e];rw[dif_pos hi];exact (a i hi).choose_spec);refine ⟨prodN e us.length,jKI (fun i hi=>(b i hi).1),?_,jJE (fun i hi=>(b i hi).2.2),a⟩;exact Nat.le_trans (jKh (fun i hi=>(b i hi).2.1)) (Nat.pow_le_pow_right (by decide) hn)
theorem jI6 {pool:List Int}{us:List Usr}(hg:Good us pool.length)(hpa:∀ i,yE (lm pool i)=true)(hn:us.length<=6){r:Nat}(hr:r<pool.length):zZ (fun i=>(xP pool us).W i*(xP pool us).P r) (xP pool us).n<=((6000000:Nat):Rat):=by
 have c:∀ m,m<=us.length->zZ (fun i=>(xP pool us).W i*(xP pool us).P r) m<=((m*1000000:Nat):Rat):=by
  intro m
  induction m with
  | zero=>intro _;exact Rat.le_refl
  | succ m ih=>
   intro j;have f:=ih (by omega);have d:=hg.wt (i:=m) (by omega);have a:=jBW (hpa r);(have g:(xP pool us).W m*(xP pool us).P r<=((1000000:Nat):Rat):=by show (((ug us m).wt:Int):Rat)*((lm pool r:Int):Rat)<=_;rw[<- Rat.intCast_mul];have h:=Int.mul_le_mul d.2 a.2 a.1 (by omega);exact jEF.2 (show (ug us m).wt*lm pool r<=1000000 by omega));(have e:(((m+1)*1000000:Nat):Rat)=((m*1000000:Nat):Rat)+((1000000:Nat):Rat):=by (have b:(m+1)*1000000=m*1000000+1000000:=by omega);rw[b,Rat.natCast_add]);simp only[zZ];rw[e]
   grind
 refine Rat.le_trans (c us.length (Nat.le_refl _)) (jKK.2 (by omega))
structure FD.Of (d:FD)(pool:List Int)(us:List Usr):Prop where
  n:d.n=us.length
  us:d.us=us
  kk:d.kk=pool.length
  room:d.room=zp pool
theorem jER {pool:List Int}{us:List Usr}{d:FD}(h:d.Of pool us)(f:Nat->Rat)(r:Nat):zI d.us f r d.n=used (xP pool us) f r:=by
 rw[h.us,h.n];rfl
theorem jND {pool:List Int}{us:List Usr}{d:FD}(h:d.Of pool us)(s:St):∀ k,suL d s k=stU (xP pool us) s k:=by
 intro k
 induction k with
 | zero=>rfl
 | succ k ih=>simp only[suL,stU];rw[ih,h.us];rfl
theorem jNL {pool:List Int}{us:List Usr}{d:FD}(h:d.Of pool us)(s:St)(l:List Rat):∀ k,skL d s l k=stK (xP pool us) s l k:=by
 intro k
 induction k with
 | zero=>rfl
 | succ k ih=>simp only[skL,stK];rw[ih,jER h,jER h,h.room];rfl
theorem jJo {pool:List Int}{us:List Usr}{d:FD}(h:d.Of pool us)(s:St):stepsF d s=zu (xP pool us) s:=by
 unfold stepsF zu;rw[jNL h,jND h,h.n,h.kk];rfl
theorem jJv {dem:List Int}{f:Nat->Bool}:∀ k,xX dem f k=true↔∃ r,r<k/\0<lm dem r/\f r=true:=by
 intro k;constructor
 ·induction k with
  | zero=>intro h;cases h
  | succ k ih=>
   intro h;simp only[xX,Bool.or_eq_true,Bool.and_eq_true,decide_eq_true_eq] at h;rcases h with h | h
   ·obtain ⟨r,b,a⟩:=ih h;exact ⟨r,by omega,a⟩
   ·exact ⟨k,by omega,h⟩
 ·rintro ⟨r,b,a,c⟩;exact jFR b a c
theorem jMA {pool:List Int}{us:List Usr}{d:FD}(h:d.Of pool us)(ts:Nat->Rat)(i:Nat):stB d ts i=true↔stopsB (xP pool us) ts i:=by
 unfold stB stopsB capB;rw[Bool.or_eq_true,jJv,decide_eq_true_eq,h.us,h.kk];constructor
 ·rintro (a | ⟨r,a,c,b⟩)
  ·exact Or.inl a
  ·refine Or.inr ⟨r,a,jDt.2 c,?_⟩;unfold upB at b;rw[decide_eq_true_eq,jER h,h.room] at b;exact b
 ·rintro (a | ⟨r,a,c,b⟩)
  ·exact Or.inl a
  ·refine Or.inr ⟨r,a,jDt.1 c,?_⟩;unfold upB;rw[decide_eq_true_eq,jER h,h.room];exact b
theorem jMX {pool:List Int}{us:List Usr}{d:FD}(h:d.Of pool us){w0 w:World}{s:St}(hf:FS w0 d w (riseF d s (stepsF d s))):FS w0 d w (yp (xP pool us) s):=by
 classical
 rw[jJo h] at hf;unfold riseF at hf;unfold yp;by_cases e:zu (xP pool us) s = []
 ·rw[if_pos (by rw[e];rfl)] at hf;rw[if_pos e];exact hf
 ·rw[if_neg (fun h5=>e (List.length_eq_zero_iff.1 h5)),jGQ] at hf;rw[if_neg e];refine hf.congr rfl (fun i hi=>?_) (fun i hi=>rfl) (fun i hi=>rfl);show xW d (upS s (yM (zu (xP pool us) s))) d.n i=upRt (xP pool us) s (yM (zu (xP pool us) s)) i;unfold xW upRt;have b:=jMA h (upTs s (yM (zu (xP pool us) s))) i;by_cases a:stopsB (xP pool us) (upTs s (yM (zu (xP pool us) s))) i
  ·rw[if_pos a,if_pos ⟨hi,b.2 a⟩];rfl
  ·rw[if_neg a,if_neg (fun h5=>a (b.1 h5.2))];rfl
def st0 (pool:List Int)(us:List Usr):St:=⟨((0:Int):Rat),yf pool us pool.length,zeroF,zeroF⟩
theorem jHX {pool:List Int} {us:List Usr} (hg:Good us pool.length) (hpa:∀ i,yE (lm pool i)=true):Inv (xP pool us) (yf pool us pool.length) (st0 pool us):=
  Inv.first (jGc hg hpa) (jDb hg hpa) _ (fun i hi=>Or.inl rfl)
theorem jKO:(10000 ^ 6*6000000) ^ 6*1000<10000 ^ 60:=by decide
theorem jI9 {G m:Nat}(hG:0<G)(h:G<=10000 ^ 6)(hm:m<=6):(G*6000000) ^ m<=(10000 ^ 6*6000000) ^ 6:=by
 have a:(G*6000000) ^ m<=(G*6000000) ^ 6:=Nat.pow_le_pow_right (by omega) hm;have b:(G*6000000) ^ 6<=(10000 ^ 6*6000000) ^ 6:=Nat.pow_le_pow_left (Nat.mul_le_mul_right _ h) 6;exact Nat.le_trans a b
theorem jKF {x:Rat}{Q M:Nat}(hQ:0<Q)(hQb:Q<=(10000 ^ 6*6000000) ^ 6)(h:isInt (Q*x))(h0:0<=x)(h1:x<=(M:Rat))(hM:M<=1000):Sm x 60:=by
 obtain ⟨b,c⟩:=jJ5 hQ h h0 h1;have a:=jKO;generalize (10000 ^ 6*6000000) ^ 6=B at hQb a;have d:Q*M<=B*1000:=Nat.mul_le_mul hQb hM;have e:B<=B*1000:=Nat.le_mul_of_pos_right B (by decide);exact ⟨jAN (by omega),jAN (by omega)⟩
theorem jEo {pool:List Int}{us:List Usr}{d:FD}(h:d.Of pool us)(hg:Good us pool.length)(hpa:∀ i,yE (lm pool i)=true)(hn:us.length<=6){m:Nat}(hm:m<=6):Small d (ya (xP pool us) (st0 pool us) m) 60:=by
 obtain ⟨G,l,u,v,N⟩:=jGj hg hn;have y:=jGc hg hpa;have c:=jDb hg hpa;have o:=jHX hg hpa;(have F:∀ i,i<(xP pool us).n->1<=(xP pool us).W i:=fun i hi=>(jEF (a:=1)).2 (hg.wt hi).1);(have I:∀ i,i<(xP pool us).n->isInt ((xP pool us).C i):=fun i hi=>⟨_,rfl⟩);(have J:∀ i r,i<(xP pool us).n->r<(xP pool us).k->isInt ((xP pool us).D i r):=fun i r hi c=>⟨_,rfl⟩);(have K:∀ r,r<(xP pool us).k->isInt ((xP pool us).P r):=fun r c=>⟨_,rfl⟩);(have x:∀ i,i<(xP pool us).n->yf pool us pool.length i<=((6000000:Nat):Rat):=fun i hi=>Rat.le_trans (jJu hg hpa hi) (jKK.2 (by decide)));have E:isInt (((1:Nat):Rat)*((0:Int):Rat)):=(isInt.nat 1).mul ⟨0,rfl⟩;obtain ⟨H,Q,g,w,t⟩:=jIM y c F I J K G 6000000 l v (fun r c=>jI6 hg hpa hn c) x (by decide) o (by show ((0:Int):Rat)<=((1:Int):Rat);exact jEF.2 (by decide)) ⟨fun i hi=>E,fun i hi=>E,E⟩ m;have f:=jCp y c o m;have j:=Nat.le_trans w (jI9 l u hm);have p:((1:Nat):Rat)=1:=rfl;generalize ya (xP pool us) (st0 pool us) m=s at H t f;refine ⟨jKF (M:=1) g j t.lev f.lev0 (by rw[p];exact H) (by decide),fun i hi=>?_,fun i hi=>?_,fun i hi=>?_⟩
 ·rw[h.n] at hi;by_cases e:s.rt i=0
  ·rw[e];exact (Sm.zero5:Sm ((0:Int):Rat) 5) |> fun _=>⟨jAN (by decide),jAN (by decide)⟩
  ·rw[(f.grow i hi e).1];obtain ⟨q,z,A,B⟩:=N i hi;obtain ⟨O,R⟩:=jJ5 z B (c.pos i hi) (jJu hg hpa hi);have S:=Nat.mul_le_mul_right 1000000 A;exact ⟨jAN (by omega),jAN (by omega)⟩
 ·rw[h.n] at hi;have L:=hg.cap (i:=i) hi;refine jKF (M:=1000) g j (t.ts i hi) (f.borne.low i hi) (Rat.le_trans (f.borne.cap i hi) ?_) (Nat.le_refl _);exact (jEF (b:=1000)).2 L.2
 ·rw[h.n] at hi;exact jKF (M:=1) g j (t.lv i hi) (f.lvs i hi).2.1 (by rw[p];exact jGu y c F f hi) (by decide)
noncomputable def yl (pool:List Int)(us:List Usr):St:=ya (xP pool us) (st0 pool us) us.length
theorem jEi {pool:List Int}{us:List Usr}(hg:Good us pool.length)(hpa:∀ i,yE (lm pool i)=true):FairFill (xP pool us) (yf pool us pool.length) (yl pool us).ts/\∀ i,i<us.length->(yl pool us).lv i=(yl pool us).ts i / yf pool us pool.length i:=by
 have b:=jGc hg hpa;have a:=jDb hg hpa;have c:=jCp b a (jHX hg hpa) us.length;exact c.last a (jJW b a (jHX hg hpa))
structure Solved (w w':World)(pool:List Int)(us:List Usr)(g:Nat)(d:FD):Prop where
  of:d.Of pool us
  low:w.heap.size<=g
  sh:ShB w' g us.length us.length (yl pool us).ts (yl pool us).lv (stopV d (yl pool us))
  bel:Below w.heap.size w w'
def SolveEnd (w w':World)(e:Ending)(pool:List Int)(us:List Usr):Prop:=
  if yF pool us=0 then ∃ g d,e = .returned (.tuple #[.slice (some ⟨g,0,none⟩) us.length us.length,.int .i64 0])/\Solved w w' pool us g d
  else e = .returned (.tuple #[.slice none 0 0,.int .i64 (yF pool us)])/\Below w.heap.size w w'
theorem jGF (po:Option Addr)(pn pc:Nat)(pool:List Int)(ao:Option Addr)(n cap:Nat)(us:List Usr)(w:World)(hp:Arr w 1 po pn pc (zg pool))(hu:Users w ao n cap us)(ht:Tab w):Calls Tryz.prog 59 #[.slice po pn pc,.slice ao n cap] w fun e w'=>SolveEnd w w' e pool us:=by
 have E:=hp.len;rw[jAG] at E;have T:=hu.1;subst E;(have P:n<=maxLen:=by obtain ⟨_,vs,W,_⟩:=hu;exact Nat.le_trans W.le W.cm);unfold maxLen at P;have U:=hid hp;have V:=hid hu;have HT:=hid ht;clear hp hu ht;have f:=hid (brw w);go_enter Tryz.func59,Tryz.ntmps59;go_wp2_with fail;refine (jKD po pool.length pc pool ao n cap us _ U.out V.out).mono ?_;rintro aa b ⟨rfl,l⟩;have a:Hid (Below w.heap.size w b):=f.out.trans (l.mono f.out.size);clear f;clear l;by_cases p:yF pool us=0
 ·obtain ⟨S,o,i,D,Q,R⟩:=jCB p;have K:=hid i;have m:=hid D;have I:=hid p;clear i D S;rw[p];clear p;go_wp2_with fail;refine (jFm po pc pool ao n cap us pool.length _ (U.out.below a.out) m.out (V.out.below a.out) K.out (by omega) R Q (HT.out.of a.out)).mono ?_;rintro e2 w2 ⟨d,rfl,⟨N,v,x,y⟩,C,B⟩;have h:=hid (show d.Of pool us from ⟨by omega,v,x,y⟩);have r:=hid C;have q:=hid (show FS _ d w2 (st0 pool us) from B);clear N v x y C B;go_wp2
  go_loopg[19] n (fun g ix wr=>∃ k:Nat,g=n - k/\k<=n/\ix = .int .i64 k/\Hid (FS b d wr (ya (xP pool us) (st0 pool us) k)))
  case atStart=>exact ⟨0,rfl,Nat.zero_le _,rfl,q.out⟩
  case round=>
   clear q;obtain ⟨k,ad,hk,rfl,X⟩:=hrel;by_cases ae:k<n
   ·go_wp2_with fail;refine (jJC b d (ya (xP pool us) (st0 pool us) k) _ X.out r.out (jEo h.out K.out m.out o (by omega)) _ _ rfl rfl).mono ?_;rintro e3 w3 ⟨rfl,A⟩;have J:Hid (FS b d w3 (ya (xP pool us) (st0 pool us) (k+1))):=jMX h.out A;clear A;go_wp2;go_roundg (n - (k+1));(case measure=>omega);case rel=>exact ⟨k+1,rfl,by omega,by go_num,J.out⟩
   ·(obtain rfl:k=n:=by omega);(have j:Hid (FS b d wr (yl pool us)):=by have t:=X.out;rw[<- T] at t;exact t);have s:Hid (Small d (yl pool us) 60):=jEo h.out K.out m.out o o;go_wp2_with fail;refine (jIb b d (yl pool us) _ j.out r.out s.out).mono ?_;rintro e4 Y ⟨g,hg,rfl,F,u⟩;have G:Hid (Below b.heap.size b Y):=j.out.bel.trans (u.mono j.out.bel.size);have H:Hid (Below w.heap.size w Y):=a.out.trans (G.out.mono a.out.size);have O:w.heap.size<=g:=Nat.le_trans (Nat.le_trans a.out.size j.out.bel.size) hg;have L:=hid F;clear F u;go_wp2;go_ret2;unfold SolveEnd;rw[if_pos I.out];have z:d.n=us.length:=h.out.n;refine ⟨g,d,?_,h.out,O,?_,H.out⟩
    ·rw[z];rfl
    ·have t:=L.out;rw[z] at t;exact t
 ·have I:=hid p;have M:=jHA pool us;generalize hq:yF pool us=c at p M;have Z:=hid hq;clear hq;(have ab:(c == 0)=false:=by rw[beq_eq_false_iff_ne];omega);go_wp2;go_ret2;unfold SolveEnd;rw[if_neg I.out];exact ⟨by rw[Z.out];rfl,a.out⟩
end Go.Proofs.YtigokanoflkinabGreatDoor
