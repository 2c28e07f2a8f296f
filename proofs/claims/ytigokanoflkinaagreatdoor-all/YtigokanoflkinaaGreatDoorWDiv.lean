/- WDivA, WDivB, WDivC, WDivD, WGcd, joined. -/
import Derived.Test.YtigokanoflkinaaGreatDoorZA
import Derived.Laws.CopyOwn
import Derived.Deep.LoopGhost
set_option maxHeartbeats 1000000
set_option maxRecDepth 10000
namespace Go.Proofs.YtigokanoflkinaaGreatDoor
set_option linter.unusedSimpArgs false
set_option linter.unusedVariables false
open Go.RowKit Por Go.Proofs.Tryz
open Value renaming int->kW,slice->kX,bool->kZ,agg->lA,tuple->lB
open IntKind renaming i64->lD
open Obj renaming cells->lE
open Ending renaming returned->lF
open World renaming setCell->lG,cell?->lH
open Option renaming none->lI,some->lJ
open Bool renaming true->lK,false->lL
open Go renaming World->lM,Value->lN
variable{bo:Option Addr}{n capr capb:Nat}{B:List Int}{w:lM}
theorem vK {ro:Option Addr}{R:List Int}(hr:Row w ro (n+1) capr R)(hs:Row w bo n capb B)(hR:yd R)(hB:yd B)(hn:n<=60000):Calls prog 213 #[kX ro (n+1:Nat) capr,kX bo n capb] w fun e w'=>e=lF (kZ (ltB (val R) (val B)))/\Below w.heap.size w w':=by
 have o:=hr.len;have r:=hs.len;obtain⟨d,f,rfl,i⟩:=hr.head (by omega);have u:=hr.cell d f rfl n (by omega);obtain⟨H,I⟩:=JA hR n;by_cases c:0<lm R n
 ·have E:=Fg R B n hR hB o r c;go_enter func213,ntmps213;go_wp2;go_ret;exact⟨by rw[E];rfl,eB _ _⟩
 ·have x:=(show lm R n=0 by omega);go_enter func213,ntmps213;go_wp2
  go_loopw [5] (fun v wr=>∃k:Nat,k<=n/\v=kW lD ((k:Int)-1)/\(∀j,k<=j->j<n->lm R j=lm B j)/\Bl w wr) (fun v _=>(intOf v+1).toNat)
  case atStart=>exact⟨n,lR,rfl,fun j h1 h2=>by omega,eB _ _⟩
  case round=>
   obtain⟨k,G,rfl,h,b⟩:=hrel;by_cases C:k=0
   ·subst C;have E:=Hp R B n o r x (fun j hj=>h j (by omega) hj);go_wp2;go_ret;exact⟨by rw[E];rfl,b⟩
   ·obtain⟨q,rfl⟩:∃q,k=q+1:=⟨k-1,by omega⟩;obtain⟨g,s,rfl,l⟩:=hs.head (by omega);have D:=qs b (hr.cell d f rfl q (by omega)) i;have F:=qs b (hs.cell g s rfl q (by omega)) l;(have A:(0:Int)<=((q+1:Nat):Int)-1:=by omega);by_cases a:lm R q=lm B q
    ·(have m:(lm R q != lm B q)=lL:=by simp[a]);go_wp2;go_quiet (fail);go_wp2
     go_roundw
     case rel=>exact⟨q,by omega,by go_num,fun j h1 h2=>(by
      by_cases e:j=q
      ·rw[e];exact a
      ·exact h j (by omega) h2),eY b _⟩
     case measure=>simp[intOf]
    ·(have m:(lm R q != lm B q)=lK:=by simp[a]);have E:=Hc R B n q hR hB o r x (by omega) (fun j h1 h2=>h j (by omega) h2) a;go_wp2;go_quiet (fail);go_wp2;go_quiet (fail);go_wp2;go_ret;exact⟨by rw[E];rfl,by first|exact eY b _|exact eY (eY b _) _⟩
variable{g:Nat}{w':lM}
theorem AA (h:w.grownBy w' (lJ g)) (j:Nat) (v:lN):w.grownBy (lG w' ⟨g,j,lI⟩ v) (lJ g):=
  ⟨h.os,h.tape,h.output,by simpa[World.setCell]using h.size,fun k hk hne=>(eT w' _ v k (fun e=>hne (by rw[e]))).trans (h.block k hk hne)⟩
variable{a b c:lM}
theorem sD (h:a.grownBy b (lJ g)) (k:b.grownBy c (lJ g)):a.grownBy c (lJ g):=
  ⟨k.os.trans h.os,k.tape.trans h.tape,k.output.trans h.output,eh h.size k.size,fun i hi hne=>(k.block i (ez hi h.size) hne).trans (h.block i hi hne)⟩
theorem pR (h:a.grownBy b (lJ g)) (k:Below b.heap.size b c):a.grownBy c (lJ g):=
  ⟨k.os.trans h.os,k.tape.trans h.tape,k.output.trans h.output,eh h.size k.size,fun i hi hne=>(k.block i (ez hi h.size)).trans (h.block i hi hne)⟩
variable{ao:Option Addr}{cap:Nat}{xs:List Int}
theorem Row.grown (h:Row w ao n cap xs)(hg:w.grownBy w' (lJ g))(hne:∀b o,ao=lJ ⟨b,o,lI⟩->b≠g):Row w' ao n cap xs:=by
 refine⟨h.len,h.le,h.cm,fun hn=>?_,fun b o e hn=>?_,fun b o e j hj=>?_⟩
 ·obtain⟨b,o,e,a⟩:=h.head hn;exact⟨b,o,e,ez a hg.size⟩
 ·obtain⟨d,k,i⟩:=h.ib b o e hn;exact⟨d,k,(hg.block b (ek.1 i).1 (fun c=>hne b o e (by cases c;rfl))).trans i⟩
 ·obtain⟨l,m,f,a⟩:=h.head (by omega);rw[e]at f;cases f;rw[<-h.cell b o e j hj];exact iw (hg.block b a (fun c=>hne b o e (by cases c;rfl)))
variable{o:Nat}{Z:List Int}{t:Int}
theorem uZ (hk:Blk w g Z)(ho:o+(n+1)<=Z.length)(hs:Row w bo n capb B)(hne:∀b o',bo=lJ ⟨b,o',lI⟩->b≠g)(hZ:yd Z)(hB:yd B)(ht0:0<=t)(ht1:t<10000)(hle:t*val B<=val ((Z.drop o).take (n+1)))(hn:n<=60000):Calls prog 214 #[kX (lJ ⟨g,o,lI⟩) (n+1:Nat) capr,kX bo n capb,kW lD t] w fun e w'=>e=lF (lB #[])/\∃Z',Win Z Z' o (n+1) (t*val B)/\yd Z'/\Blk w' g Z'/\w.grownBy w' (lJ g):=by
 have O:=hs.len;have G:=hid hk;have D:=hid hs;have u:=hid hle;have v:=hid hne;clear hk hs hle hne;go_enter func214,ntmps214;go_wp2
 go_loopw [6,12] (fun vc vi wr=>∃(i:Nat) (c:Int) (Y:List Int),i<=n /\ vi=kW lD i /\ vc=kW lD c /\ 0<=c /\ c<=10000 /\ Y.length=Z.length /\ Hid (yd Y) /\ Hid (Y.take o=Z.take o) /\
  Hid (∀j,i<=j -> lm Y (o+j)=lm Z (o+j)) /\ Hid (val ((Y.drop o).take i)-10000^i*c=val ((Z.drop o).take i)-t*val (B.take i)) /\ Hid (Blk wr g Y) /\ Hid (w.grownBy wr (lJ g))) (fun _ vi _=>n-(intOf vi).toNat)
 case atStart=>exact⟨0,0,Z,ep _,rfl,rfl,by omega,by omega,rfl,hZ,rfl,fun _ _=>rfl,by simp[Hid,val],G.out,World.grownBy.refl _ _⟩
 case round=>
  obtain⟨i,c,Y,S,rfl,rfl,p,y,q,h,k,f,l,d,z⟩:=hrel;by_cases N:i<n
  ·obtain⟨m,s,rfl,C⟩:=D.out.head (by omega);have R:lH wr ⟨m,s+i,lI⟩=lJ (kW lD (lm B i)):=(iw (a:=⟨m,s+i,lI⟩) (z.out.block m C (fun e=>v.out m s rfl (by cases e;rfl)))).trans (D.out.cell m s rfl i (by omega));have K:=d.out.cell (o+i) (by omega);have L:=d.out.frozen (o+i);obtain⟨T,U,V,W⟩:=EJ (lm B i) t c (JA hB i) ⟨ht0,ht1⟩ ⟨p,y⟩;obtain⟨H,I⟩:=JA h.out (o+i);obtain⟨P,Q⟩:=JA hB i;have M:=hid ((nB Y o i).trans ((f.out i lR).trans (nB Z o i).symm));have r:=hid (nB Y o i);by_cases F:lm Y (o+i)-(c+lm B i*t)%10000<0
   all_goals
    go_wp2
    go_roundw
    case rel=>
     refine⟨i+1,_,_,by omega,by go_num,rfl,by omega,by omega,by simpa using q,lO h.out (o+i) _ (by omega) (by omega),?_,?_,?_,d.out.set (o+i) _,AA z.out _ _⟩
     ·show _=_
      rw[List.take_set_of_le (by omega)];exact k.out
     ·intro j A
      refine Eq.trans ?_ (f.out j (by omega))
      unfold lm;simp[iX,show¬ o+i=o+j by omega,show¬ i=j by omega]
     ·show _=_
      rw[<-List.set_drop]
      exact Fk (Y.drop o) (Z.drop o) B i t c _ _ (by rw[iC];omega) M.out (by rw[r.out];omega) l.out
    case measure=>simp[intOf];omega
  ·(obtain rfl:i=n:=by omega);have K:=d.out.cell (o+i) (by omega);have L:=d.out.frozen (o+i);have r:=hid (nB Y o i)
   have E:=hid (Hn (Y.drop o) ((Z.drop o).take (i+1)) B i t c (mQ h.out o) (lW (mQ hZ o) _) p (by rw[iC];omega)
    (by rw[nE _ _ _ (by omega),nB,nB];exact f.out i lR) O (by rw[im,iC];omega) (by rw[List.take_take,Nat.min_eq_left (by omega)];exact l.out) u.out)
   obtain⟨H,I⟩:=JA h.out (o+i);(have J:0<=lm Y (o+i)-c:=by have:=E.out.1;rw[r.out]at this;exact this);go_wp2;go_end0;refine⟨rfl,Y.set (o+i) (lm Y (o+i)-c),⟨by simpa using q,?_,?_,?_⟩,lO h.out _ _ J (by omega),d.out.set (o+i) _,AA z.out _ _⟩
   ·rw[List.take_set_of_le (by omega)];exact k.out
   ·apply List.ext_getElem?;intro j;have x:=f.out (i+1+j) (by omega);by_cases A:o+(i+1)+j<Z.length
    ·unfold lm at x;rw[List.getElem?_drop,List.getElem?_drop,iX,ec (by omega)];rw[show o+(i+1+j)=o+(i+1)+j by omega]at x;rw[en (by omega),en A]
     simpa[ej,A,show o+(i+1)+j<Y.length by omega]using x
    ·rw[eW (by simp;omega),eW (by simp;omega)]
   ·rw[<-List.set_drop,<-r.out];exact E.out.2.2
theorem Row.drewN (h:Row w ao n cap xs)(q:Nat):Row (w.drewN q) ao n cap xs:=h.iP (eY brf q)
theorem Blk.drewN {zs:List Int}(h:Blk w g zs)(q:Nat):Blk (w.drewN q) g zs:=h.iP (eY (eB (g+1) w) q) (by omega)
theorem wD (h:a.grownBy b (lJ g))(q:Nat):a.grownBy (b.drewN q) (lJ g):=pR h (eY brf q)
theorem DR (Y B:List Int)(o n:Nat)(hY:yd Y)(hB:yd B)(ho:o+(n+1+1)<=Y.length)(l2:B.length=n+1):0<=(lm Y (o+(n+1))*10000+lm Y (o+n))/(lm B n+1)/\(lm Y (o+(n+1))*10000+lm Y (o+n))/(lm B n+1)*val B<=val ((Y.drop o).take (n+1+1)):=by
 have d:=JA hY (o+(n+1));have e:=JA hY (o+n);have f:=JA hB n;(have b:lm ((Y.drop o).take (n+1+1)) (n+1)=lm Y (o+(n+1)):=by rw[nE _ _ _ (by omega),nB]);(have c:lm ((Y.drop o).take (n+1+1)) n=lm Y (o+n):=by rw[nE _ _ _ (by omega),nB]);have a:0<=(lm Y (o+(n+1))*10000+lm Y (o+n))/(lm B n+1):=Int.ediv_nonneg (by omega) (by omega);refine⟨a,GU _ B n (lW (mQ hY o) _) hB (by rw[im,iC];omega) l2 _ a ?_⟩;rw[b,c];exact Int.ediv_mul_le _ (by omega)
variable{Y:List Int}{q:Int}
theorem Cp {V:Int}(h:Win Z Y o n (q*V))(hV:0<V)(ht:t*V<=val ((Y.drop o).take n))(hl:val ((Z.drop o).take n)<10000*V):q+t<10000:=by
 refine GV (q+t) V (val ((Z.drop o).take n)) hV ?_ hl;rw[h.win]at ht;rw[Int.add_mul];omega
theorem DW (hk:Blk w g Z)(ho:o+(n+1+1)<=Z.length)(hc:n+1+1<=capr)(hcm:capr<=maxLen)(hs:Row w bo (n+1) capb B)(hne:∀b o',bo=lJ ⟨b,o',lI⟩->b≠g)(hZ:yd Z)(hB:yd B)(htop:1<=lm B n)(hlt:val ((Z.drop o).take (n+1+1))<10000*val B)(hn:n<=50000):Calls prog 196 #[kX (lJ ⟨g,o,lI⟩) (n+1+1:Nat) capr,kX bo (n+1:Nat) capb] w fun e w'=>∃(q:Int) (Z':List Int),e=lF (kW lD q)/\0<=q/\q<10000/\Win Z Z' o (n+1+1) (q*val B)/\yd Z'/\val ((Z'.drop o).take (n+1+1))<val B/\Blk w' g Z'/\w.grownBy w' (lJ g):=by
 have T:=hs.len;obtain⟨M,U,rfl,aa⟩:=hs.head (by omega);have D:=IB hB n T htop;have t:=hne M U rfl;go_enter func196,ntmps196;go_wp2
 go_loopw [6] (fun vq wr=>∃(q:Int) (Y:List Int),vq=kW lD q/\0<=q/\q<10000/\Win Z Y o (n+1+1) (q*val B)/\yd Y/\Blk wr g Y/\w.grownBy wr (lJ g)) (fun vq _=>10000-(intOf vq).toNat)
 case atStart=>exact⟨0,Z,rfl,by omega,by omega,by rw[jC];exact Win.refl _ _ _,hZ,hk,World.grownBy.refl _ _⟩
 case round=>
  obtain⟨q,Y,rfl,O,P,c,f,d,F⟩:=hrel;have ab:=c.len;have s:=d.row o (n+1+1) capr (by omega) hc hcm;have v:=hs.grown F (fun b o' e=>by cases e;exact t);have C:=lW (mQ f o) (n+1+1);by_cases a:val ((Y.drop o).take (n+1+1))<val B
  ·(have X:ltB (val ((Y.drop o).take (n+1+1))) (val B)=lK:=by unfold ltB;simpa using a);have H:=a;go_wp2_with fail;refine(vK s v C hB (by omega)).mono ?_;rintro e w3 ⟨rfl,i⟩;have k:=i;go_wp2;go_ret;exact⟨q,Y,rfl,O,P,c,f,H,d.iP k d.lt,pR F k⟩
  ·(have X:ltB (val ((Y.drop o).take (n+1+1))) (val B)=lL:=by unfold ltB;simpa using a);have H:=a;go_wp2_with fail;refine (vK s v C hB (by omega)).mono ?_;rintro e w3 ⟨rfl,i⟩;have k:=i;have j:=d.iP i d.lt;have p:=v.iP i;have d1:=j.cell (o+(n+1)) (by omega);have d2:=j.cell (o+n) (by omega);have d3:=p.cell M U rfl n (by omega);obtain ⟨a0,a1⟩:=JA f (o+(n+1));obtain ⟨a2,a3⟩:=JA f (o+n);obtain ⟨a4,a5⟩:=JA hB n;have I:=DR Y B o n f hB (by omega) T;by_cases z:(lm Y (o+(n+1))*10000+lm Y (o+n)) / (lm B n+1)=0
   ·(have N:((lm Y (o+(n+1))*10000+lm Y (o+n))/(lm B n+1) == 0)=lK:=by simpa using z);(have Q:1*val B<=val ((Y.drop o).take (n+1+1)):=by rw[Int.one_mul];exact H);have y:=Cp c D Q hlt;go_wp2_with fail;go_quiet (fail);go_wp2_with fail;refine(uZ (j.drewN _) (by omega) (p.drewN _) (fun b o' e=>by cases e;exact t) f hB (by omega) (by omega) Q (by omega)).mono ?_;rintro e w4 ⟨rfl,L,r,u,m,l⟩;have K:=r;have J:=m;have G:=l;go_wp2
    go_roundw
    (case rel=>exact⟨q+1,L,rfl,by omega,y,by rw[Int.add_mul];exact c.trans K,u,J,sD (wD (pR F k) _) G⟩);case measure=>simp[intOf];omega
   ·obtain⟨E,A⟩:∃E,E=(lm Y (o+(n+1))*10000+lm Y (o+n))/(lm B n+1):=⟨_,rfl⟩;(have N:((lm Y (o+(n+1))*10000+lm Y (o+n))/(lm B n+1) == 0)=lL:=by simpa using z);have y:=Cp c D I.2 hlt;have R:=I.1
    have S:1<=(lm Y (o+(n+1))*10000+lm Y (o+n))/(lm B n+1):=by
     rcases Int.lt_or_eq_of_le R with h|h
     ·exact h
     ·exact absurd h.symm z
    go_wp2_with fail;go_quiet (fail);go_wp2_with fail;refine(uZ (j.drewN _) (by omega) (p.drewN _) (fun b o' e=>by cases e;exact t) f hB R (by omega) I.2 (by omega)).mono ?_;rintro e w4 ⟨rfl,L,r,u,m,l⟩;have K:=r;have J:=m;have G:=l;go_wp2
    go_roundw
    (case rel=>exact⟨_,L,rfl,by omega,y,by rw[Int.add_mul];exact c.trans K,u,J,sD (wD (pR F k) _) G⟩);case measure=>simp only[intOf];revert S y;generalize(lm Y (o+(n+1))*10000+lm Y (o+n))/(lm B n+1)=E';intro S y;omega
theorem FN (X:List Int)(m:Nat)(hX:yd X)(hl:X.length=m+1)(h0:lm X m=0):val X<10000^m:=by
 have a:=nD X m hl;have b:=mZ (lW hX m);rw[im,Nat.min_eq_left (by omega)]at b;rw[h0]at a;omega
theorem Fl (B:List Int)(m:Nat)(hB:yd B)(hl:B.length=m+1)(h0:1<=lm B m):(10000:Int)^m<=val B:=by
 have a:=nD B m hl;have b:=l4 (lW hB m);have:(10000:Int)^m*1<=10000^m*lm B m:=eX h0 (Int.le_of_lt (Int.pow_pos (by omega)));omega
structure Div (Z B Q Z':List Int):Prop where
  limQ:yd Q
  limZ:yd Z'
  len:Z'.length=Z.length
  sum:val Q*val B+val Z'=val Z
  small:val Z'<val B
theorem H9 {Q Y':List Int}{i qn:Nat}(hsum:val Q*val B+val Y=val Z)(hq0:lm Q i=0)(hi:i<Q.length)(hw:Win Y Y' i (n+1+1) (q*val B))(hle:i+(n+1+1)<=Y.length)(he:val ((Y.drop i).take (n+1+1))=val (Y.drop i))(hs:val ((Y'.drop i).take (n+1+1))<val B):val (Q.set i q)*val B+val Y'=val Z/\val (Y'.drop i)<val B:=by
 have a:=hw.all hle;have b:=hw.drop hle;have c:=hw.win;refine⟨?_,by omega⟩;rw[rT Q i q hi,hq0,a];generalize(10000:Int)^i=P at *
 grind
variable{L m:Nat}
theorem CO (h:m=0\/L<=m)(hL:L<=60000)(hm:m<=60000):Calls prog 178 #[kX (lJ ⟨g,0,lI⟩) L L,kX bo m capb] w fun e w'=>e=lF (kX lI 0 0)/\w'=w:=by
 by_cases a:m=0
 ·subst a;go_enter func178,ntmps178;go_wp2;go_ret;exact⟨rfl,rfl⟩
 ·(have b:((m:Int) == 0)=lL:=by simp;omega);(have c:(L:Int)<=(m:Int):=by omega);go_enter func178,ntmps178;go_wp2;go_ret;exact⟨rfl,rfl⟩
theorem CR (hk:Blk w g Z)(hl:Z.length=L)(hs:Row w bo (n+1) capb B)(hne:∀b o',bo=lJ ⟨b,o',lI⟩->b≠g)(hZ:yd Z)(hB:yd B)(htop:1<=lm B n)(hz:lm Z (L-1)=0)(hn:n+1<L)(hL:L<=50000):Calls prog 178 #[kX (lJ ⟨g,0,lI⟩) L L,kX bo (n+1:Nat) capb] w fun e w'=>∃(qo:Option Addr) (qn qcap:Nat) (Q Z':List Int),e=lF (kX qo qn qcap)/\qn<=L/\Div Z B Q Z'/\Row w' qo qn qcap Q/\Blk w' g Z'/\w.grownBy w' (lJ g):=by
 have U:=hs.len;(have aa:(((n:Int)+1) == 0)=lL:=by rw[eg];omega);(have ab:decide ((L:Int)<=(n:Int)+1)=lL:=by rw[eL];omega);have ae:=hk.lt;have K:=Fl B n hB U htop;have M:=Int.le_of_lt (mZ hB);(have P:val (Z.drop (L-(n+1)))<val B:=by have:=FN (Z.drop (L-(n+1))) n (mQ hZ _) (by rw[iC];omega) (by rw[nB,show L-(n+1)+n=L-1 by omega];exact hz);show _<_;omega);have W:=hk;have s:=hne;clear hk hne;go_enter func178,ntmps178;go_wp2_with (at_make;refine mm _ rfl _ _ rfl _ _ (L-(n+1)) rfl rfl (by omega) (by omega) (by omega) ?_);intro w1 c v ah;have r:=c;obtain⟨G,T⟩:∃G,G=w.heap.size:=⟨_,rfl⟩;(have ad:g<G:=by omega);(have ac:w.heap.size<=G:=by omega);rw[<-T]at r ⊢;clear c T;go_wp2
 go_loopw [6] (fun vi wr=>∃(k:Nat) (Q Y:List Int),k<=L-(n+1) /\ vi=kW lD ((k:Int)-1) /\ Q.length=L-(n+1) /\ Y.length=L /\ yd Q /\ yd Y /\ (val Q*val B+val Y=val Z) /\ (val (Y.drop k)<val B) /\
  (∀t,t<k -> lm Q t=0) /\ Blk wr G Q /\ Blk wr g Y /\ w.grownBy wr (lJ g)) (fun vi _=>(intOf vi+1).toNat)
 case atStart=>refine⟨L-(n+1),_,Z,lR,by go_num,by simp,hl,mv _,hZ,by simp[Hid,qC],P,fun t _=>ot _ t,r,W.iP v (by omega),pR (World.grownBy.refl _ _) v⟩
 case round=>
  obtain⟨k,Q,Y,hk,rfl,A,ag,u,j,f,E,z,l,x,N⟩:=hrel;by_cases k0:k=0
  ·subst k0;go_wp2;go_ret;have C:=Blk.row0 l (L-(n+1)) (L-(n+1)) A.symm lR (by unfold maxLen;omega);exact⟨_,_,_,Q,Y,rfl,by omega,⟨u,j,by omega,f,by have:=E;rwa[jF]at this⟩,C,x,N⟩
  ·obtain⟨i,rfl⟩:∃i,k=i+1:=⟨k-1,by omega⟩;(have af:(0:Int)<=((i+1:Nat):Int)-1:=by omega);have O:=hs.grown N s;have d:=Fb Y i (n+1) (val B) j (by have:=M;rwa[U]at this) (by omega) E;go_wp2_with fail;rw[show i+(n+1)+1-i=n+1+1 from by omega];refine(DW (capr:=L-i) x (by omega) (by omega) (by unfold maxLen;omega) O s j hB htop (by rw[d.1];exact d.2.1) (by omega)).mono ?_;rintro e V ⟨q,S,rfl,q0,q1,o,y,D,c,m⟩;have J:=l.lt;have h:Blk V G Q:=(m.block G J (by intro e;cases e;omega)).trans l;have g1:=h.cell i (by omega);have g2:=h.frozen i;have R:=H9 (qn:=L) f (z i (by omega)) (by omega) o (by omega) d.1 D;(have F:S.length=L:=by have:=o.len;omega);have a:=sD N m;clear o D m;go_wp2
   go_roundw
   (case rel=>refine⟨i,Q.set i q,S,by omega,by go_num,by simpa using A,F,lO u i q q0 q1,y,R.1,R.2,fun t ht=>(mL Q i t q (by omega)).trans (z t (by omega)),h.set i q,c.jx _ _ (by show G≠g;omega),?_⟩;exact⟨a.os,a.tape,a.output,by simpa[World.setCell]using a.size,fun t ht hne=>(eT V _ _ t (by show t≠G;omega)).trans (a.block t ht hne)⟩);case measure=>simp[intOf]
theorem Tryz.sizeInt:(prog.info? 3).map (·.size)=lJ 1:=by kernel_rfl
theorem CK (w:lM){ops:Array Oper}{rest:List Oper}{o:Oper}{a:Act}{Q:Exit->Act->lM->Prop}(hgd:o.guard=lI)(d s:Operand)(ho:o.op=.call {callee:=.builtin .copy,args:=#[d,s],argTypes:=#[22,22]})(g n dLen dCap cap:Nat)(so:Option Addr)(D xs:List Int)(hd:a.eval d=kX (lJ ⟨g,0,lI⟩) dLen dCap)(hs:a.eval s=kX so n cap)(hk:Blk w g D)(hD:D.length=dLen)(hr:Row w so n cap xs)(hle:n<=dLen)(h:∀w',Hid (Blk w' g (xs++D.drop n))->Below g w w'->wpList prog ops Q rest (a.put o.dst (goInt n)) w'):wpList prog ops Q (o::rest) a w:=by
 have f:=hr.len;(have k:((xs.map (Value.int lD)).length:Int)=n:=by simp[f]);refine wpList_copy_splice hgd d s _ _ ho 3 eR Tryz.sizeInt (lJ ⟨g,0,lI⟩) so dLen dCap n cap hd hs g 0 (D.map (Value.int lD)) 3 hk (xs.map (Value.int lD)) (by rw[iv,f];exact(Nat.min_eq_left hle).symm) ?_ (by simp;omega) ?_ g w brf lR ?_
 ·intro q;obtain⟨b,c,e,_⟩:=hr.head (by simpa[f]using q);refine⟨rfl,⟨b,c,lI⟩,e,fun j v i=>?_⟩
  have p:j<n:=by
   have:=(eA.1 i).1
   simpa[f]using this
  have:=hr.cell b c e j p;rw[show(⟨b,c,lI⟩:Addr).add j=⟨b,c+j,lI⟩ by simp[Addr.add],this];rw[<-i];unfold lm;simp[show j<xs.length by omega]
 ·intro v i;obtain⟨x,_,rfl⟩:=jB.1 i;rfl
 ·intro w' l m;rw[k];refine h w' ?_ m;have:=l;unfold splice at this;show w'.heap[g]?=_;rw[this];simp[f]
theorem vD (hr:Row w ao n cap xs)(hn:n<=60000):Calls prog 177 #[lA #[kX ao n cap]] w fun e w'=>∃g,e=lF (kX (lJ ⟨g,0,lI⟩) (n+1:Nat) (n+1:Nat))/\w.heap.size<=g/\Blk w' g (xs++[0])/\Below w.heap.size w w':=by
 have m:=i1 w #[kX ao n cap] 88;have b:=(eB _ w).alloc lR (lE #[kX ao n cap] 88);have l:=hr.iP b;go_enter func177,ntmps177;go_wp2_with (at_make;refine mm _ rfl _ _ rfl _ _ (n+1) rfl rfl (by omega) (by omega) (by omega) ?_);intro r d a p;have o:=m.iP a (by omega);have q:=o.cell 0 _ rfl;have j:=l.iP (a.mono (by simp));have i:=d;go_wp2_with (refine CK _ rfl (.tmp 9) (.tmp 11) rfl (w.heap.size+1) n (n+1) (n+1) cap ao (List.replicate (n+1) 0) xs rfl rfl i (by simp) j (by omega) ?_);intro s k c;go_wp2;go_ret;refine⟨w.heap.size+1,rfl,by omega,?_,b.trans ((a.mono (by omega)).trans (c.mono (by omega)))⟩;exact k
theorem IG (xs:List Int)(n:Nat)(h:xs.length=n):lm (xs++[0]) n=0:=by subst h;unfold lm;simp
theorem G9 (xs:List Int):val (xs++[0])=val xs:=by rw[qT];simp[val]
theorem H3 (h:yd xs):yd (xs++[0]):=by
 intro x a;rcases iu.1 a with a|a
 ·exact h x a
 ·have:=jv.1 a;omega
theorem Et (h:xQ B)(hL:yd B)(n:Nat)(hn:B.length=n+1):1<=lm B n:=by
 have:=JA hL n
 have b:lm B n≠0:=by
  intro a;apply h;rw[List.getLast?_eq_getElem?,hn,Nat.add_sub_cancel];unfold lm at a;rw[en (by omega)]
  simpa[show n<B.length by omega]using a
 omega
variable{x y:Nat}
theorem u7 (hk:Blk w g (zA x++[0]))(hl:(zA x).length=n)(hs:Row w bo m capb (zA y))(hne:∀b o',bo=lJ ⟨b,o',lI⟩->0<m->b≠g)(hn:n<=40000)(hm:m<=40000):Calls prog 178 #[kX (lJ ⟨g,0,lI⟩) (n+1:Nat) (n+1:Nat),kX bo m capb] w fun e w'=>∃(qo:Option Addr) (qn qcap:Nat) (Q Z':List Int),e=lF (kX qo qn qcap)/\qn<=n+1/\yd Q/\yd Z'/\Z'.length=n+1/\(val Q).toNat=x/y/\(val Z').toNat=x%y/\Row w' qo qn qcap Q/\Blk w' g Z'/\w.grownBy w' (lJ g):=by
 have D:=hs.len;have c:=H3 (qA x);(have p:val (zA x++[0])=(x:Int):=by rw[G9,JG]);by_cases h:m=0\/n+1<=m
 ·refine(CO h (by omega) (by omega)).mono ?_;rintro e w' ⟨rfl,rfl⟩
  have o:x/y=0/\x%y=x:=by
   by_cases q:y=0
   ·subst q;simp
   ·(have C:m≠0:=by intro H;apply ml q;apply iY;omega);(have d:x<y:=by have j:=pM (qA x) (qA y) (oq y) (by omega);rw[JG,JG]at j;omega);exact⟨Nat.div_eq_of_lt d,Nat.mod_eq_of_lt d⟩
  refine⟨lI,0,0,[],_,rfl,by omega,by simp[yd],c,by simp[hl],by rw[o.1];rfl,by rw[o.2,p];omega,Row.nil _,hk,World.grownBy.refl _ _⟩
 ·obtain⟨k,rfl⟩:∃k,m=k+1:=⟨m-1,by omega⟩;have i:=Et (oq y) (qA y) k D;refine(CR hk (by simp[hl]) hs (fun b o' e=>hne b o' e (by omega)) c (qA y) i (by rw[Nat.add_sub_cancel];exact IG _ n hl) (by omega) (by omega)).mono ?_;rintro e w' ⟨qo,qn,qcap,Q,Z',rfl,l,a,f,A,B⟩;have j:=a.sum;have z:=a.small;rw[p,JG]at j;rw[JG]at z;have E:=l4 a.limQ;have F:=l4 a.limZ;(have v:x=(val Q).toNat*y+(val Z').toNat:=by have r:=Int.toNat_of_nonneg E;have s:=Int.toNat_of_nonneg F;(have G:(((val Q).toNat*y+(val Z').toNat:Nat):Int)=x:=by rw[Int.natCast_add,Int.natCast_mul,r,s];exact j);omega);obtain⟨t,u⟩:=tr x y _ _ v (by omega);exact⟨qo,qn,qcap,Q,Z',rfl,l,a.limQ,a.limZ,by rw[a.len];simp[hl],t,u,f,A,B⟩
variable{capa:Nat}
theorem sx (hr:Row w ao n capa (zA x))(hs:Row w bo m capb (zA y))(hn:n<=40000)(hm:m<=40000):Calls prog 154 #[lA #[kX ao n capa],lA #[kX bo m capb]] w fun e w'=>∃v,e=lF v/\Num w' v (x/y)/\Below w.heap.size w w':=by
 have l1:=hr.len;obtain⟨c1,U,V,u⟩:=boxes3 w #[kX ao n capa] #[kX bo m capb] #[kX lI 0 0] 88 88 88;have s:=hr.iP u;have t:=hs.iP u;(have q:∀b A,bo=lJ ⟨b,A,lI⟩->0<m->b<w.heap.size:=fun b o e h=>by obtain⟨b',A,W,hl⟩:=hs.head h;rw[e]at W;cases W;exact hl);clear hr hs c1;go_enter func154,ntmps154;go_wp2_with fail;refine(vD s (by omega)).mono ?_;rintro e Z ⟨g,rfl,M,i,a⟩;simp only[em]at M;have I:=U.iP a U.lt;have T:=V.iP a V.lt;have y2:=I.cell 0 _ rfl;have N:=t.iP a;have l:=u.trans (a.mono (by simp;omega));have ab:=i.lt;clear a s t u U V;go_wp2_with fail;refine(u7 i l1 N (fun b A e h=>by have:=q b A e h;omega) hn hm).mono ?_;rintro e P ⟨Y,qn,f,Q,Z',rfl,ac,K,aa,ad,X,hz,d,L,z⟩;have S:Bx P (w.heap.size+1+1) #[kX lI 0 0] 88:=(z.block _ T.lt (by intro e;cases e;omega)).trans T;have B:=(l).grown z (by have:=l.size;omega) (fun k e=>by cases e;omega);have O:w.heap.size+1+1<P.heap.size:=S.lt;clear L z hz;go_wp2_with fail;refine(pt d K (by omega)).mono ?_;rintro e w4 ⟨j,hj,r,rfl,c⟩;have J:=S.iP c O;obtain⟨_,z1,z2⟩:=J.w1 rfl;have F:=oL d hj r X c;have C:=B.trans (c.mono (by omega));clear c r;go_wp2;refine eG (v:=lA #[kX Y j f]) (by simp[results,results154,go_sem,z1]) rfl ⟨_,rfl,⟨_,_,_,rfl,F.jx _ _ _ J (by decide)⟩,?_⟩;exact C.setCell (by simp;omega) _
theorem u4 (hr:Row w ao n capa (zA x))(hs:Row w bo m capb (zA y))(hn:n<=40000)(hm:m<=40000):Calls prog 176 #[lA #[kX ao n capa],lA #[kX bo m capb]] w fun e w'=>∃v,e=lF v/\Num w' v (x%y)/\Below w.heap.size w w':=by
 have l1:=hr.len;obtain⟨c1,T,U,u⟩:=boxes3 w #[kX ao n capa] #[kX bo m capb] #[kX lI 0 0] 88 88 88;have r:=hr.iP u;have t:=hs.iP u;(have p:∀b z,bo=lJ ⟨b,z,lI⟩->0<m->b<w.heap.size:=fun b o e h=>by obtain⟨b',z,V,hl⟩:=hs.head h;rw[e]at V;cases V;exact hl);clear hr hs c1;go_enter func176,ntmps176;go_wp2_with fail;refine(vD r (by omega)).mono ?_;rintro e Y ⟨g,rfl,K,d,a⟩;simp only[em]at K;have Y2:=T.iP a T.lt;have S:=U.iP a U.lt;have y2:=Y2.cell 0 _ rfl;have L:=t.iP a;have f:=u.trans (a.mono (by simp;omega));have ab:=d.lt;clear a r t u T U;go_wp2_with fail;refine(u7 d l1 L (fun b z e h=>by have:=p b z e h;omega) hn hm).mono ?_;rintro e O ⟨qo,qn,X,Q,Z',rfl,ac,aa,I,N,hq,W,s,l,J⟩;have R:Bx O (w.heap.size+1+1) #[kX lI 0 0] 88:=(J.block _ S.lt (by intro e;cases e;omega)).trans S;have A:=(f).grown J (by have:=f.size;omega) (fun k e=>by cases e;omega);have i:=Blk.row0 l (n+1) (n+1) N.symm lR (by unfold maxLen;omega);have M:w.heap.size+1+1<O.heap.size:=R.lt;clear s l J hq;go_wp2_with fail;refine(pt i I (by omega)).mono ?_;rintro e w4 ⟨j,hj,q,rfl,c⟩;have H:=R.iP c M;obtain⟨_,z1,z2⟩:=H.w1 rfl;have E:=oL i hj q W c;have B:=A.trans (c.mono (by omega));clear c q;go_wp2;refine eG (v:=lA #[kX (lJ ⟨g,0,lI⟩) j (n+1)]) (by simp[results,results176,go_sem,z1]) rfl ⟨_,rfl,⟨_,_,_,rfl,E.jx _ _ _ H (by decide)⟩,?_⟩;exact B.setCell (by simp;omega) _
theorem Bx.set {b:Nat}{v:lN}{T:TypeId}(h:Bx w b #[v] T)(u:lN):Bx (lG w ⟨b,0,lI⟩ u) b #[u] T:=by
 unfold Bx;rw[eP w b 0 _ _ _ h];rfl
theorem Row.alloc (h:Row w ao n cap xs)(o:Obj):Row (w.alloc o) ao n cap xs:=h.iP (brf.alloc lR _)
theorem B7 (hr:Row w ao n capa (zA x))(hs:Row w bo m capb (zA y))(hn:n<=40000)(hm:m<=40000):Calls prog 153 #[lA #[kX ao n capa],lA #[kX bo m capb]] w fun e w'=>∃v,e=lF v/\Num w' v (Nat.gcd x y)/\Below w.heap.size w w':=by
 obtain⟨u,H,I,J⟩:=boxes3 w #[kX ao n capa] #[kX bo m capb] #[kX lI 0 0] 88 88 88;have A:=hr.iP J;have D:=hs.iP J;have X:=u;have Y:=H;have Z:=I;go_enter func153,ntmps153;go_wp2
 go_loopg[5] y (fun k _ wr=>∃(ao bo:Option Addr) (n capa m capb a b:Nat),k=b /\ n<=40000 /\ m<=40000 /\ (Nat.gcd a b=Nat.gcd x y) /\ Row wr ao n capa (zA a) /\ Row wr bo m capb (zA b) /\
  Bx wr w.heap.size #[kX ao n capa] 88 /\ Bx wr (w.heap.size+1) #[kX bo m capb] 88 /\ Bx wr (w.heap.size+1+1) #[kX lI 0 0] 88 /\ Bl w wr)
 case atStart=>exact⟨ao,bo,n,capa,m,capb,x,y,rfl,hn,hm,rfl,A,D,X,Y,Z,J⟩
 case round=>
  obtain⟨ao,bo,n,capa,m,capb,a,b,z,hn,hm,g,C,l,L,U,o,hB⟩:=hrel;have Q:=o.lt;have b1:=L.cell 0 _ rfl;have b2:=U.cell 0 _ rfl;obtain⟨_,b3,fz⟩:=o.w1 rfl;by_cases j:b=0
  ·(have hz:isZ b=lK:=by simp[isZ,j]);go_wp2_with fail;refine(ob l (by omega)).mono ?_;rintro e S ⟨rfl,c⟩;have G:=L.iP c (by omega);have p:=o.iP c (by omega);have u:=G.cell 0 _ rfl;obtain⟨_,I,f3⟩:=p.w1 rfl;have i:=C.iP c;have h:=hB.trans (c.mono (by omega));(have HE:a=Nat.gcd x y:=by have:=g;rw[j,Nat.gcd_zero_right]at this;exact this);go_wp2;refine eG (v:=lA #[kX ao n capa]) (by simp[results,results153,go_sem,I]) rfl ⟨_,rfl,⟨_,_,_,rfl,?_⟩,h.setCell (by simp;omega) _⟩;rw[<-HE];exact i.jx _ _ _ p (by decide)
  ·(have hz:isZ b=lL:=by simp[isZ,j]);go_wp2_with fail;refine (ob l (by omega)).mono ?_;rintro e S ⟨rfl,c⟩;have E:=c.size;have G:=L.iP c (by omega);have V:=U.iP c (by omega);have p:=o.iP c (by omega);have u:=G.cell 0 _ rfl;have H:=V.cell 0 _ rfl;have i:=C.iP c;have s:=l.iP c;have h:=hB.trans (c.mono (by omega));go_wp2_with fail;refine (u4 i s hn hm).mono ?_;rintro e T ⟨v,rfl,⟨R,K,f,rfl,B⟩,d⟩;have F:=d.size;have q:=G.iP d (by omega);have M:=V.iP d (by omega);have D3:=p.iP d (by omega);have d1:=q.cell 0 _ rfl;have d2:=M.cell 0 _ rfl;have f1:=q.frozen 0;have f2:=M.frozen 0;have t:=s.iP d;have O:=h.trans (d.mono (by omega));(have aa:w.heap.size<T.heap.size:=by omega);(have ab:w.heap.size+1<T.heap.size:=by omega);(have P:K<=40000:=by have h1:=B.len;have h2:=t.len;have:=@jAH (a % b) b (ir (Nat.mod_lt a (by omega)));omega);go_wp2;go_roundg (a % b);case measure=>rw[z];exact Nat.mod_lt a (by omega)
   case rel=>
    have N:=M.jx ⟨w.heap.size,0,lI⟩ (kX bo m capb) (by show w.heap.size≠w.heap.size+1;omega);have E1:=(q.set (kX bo m capb)).jx ⟨w.heap.size+1,0,lI⟩ (kX R K f) (by show w.heap.size+1≠w.heap.size;omega);have E3:=(D3.jx ⟨w.heap.size,0,lI⟩ (kX bo m capb) (by show w.heap.size≠w.heap.size+1+1;omega)).jx ⟨w.heap.size+1,0,lI⟩ (kX R K f) (by show w.heap.size+1≠w.heap.size+1+1;omega);refine⟨bo,R,m,capb,K,f,b,a%b,rfl,hm,P,?_,?_,?_,?_,?_,?_,?_⟩
    ·exact((jJ b (a%b)).trans ((Nat.gcd_rec b a).symm.trans (jJ b a))).trans g
    ·exact((t.jx _ _ _ q (by decide)).jx _ _ _ N (by decide)).alloc _
    ·exact((B.jx _ _ _ q (by decide)).jx _ _ _ N (by decide)).alloc _
    ·exact i7 E1 _
    ·exact i7 (N.set _) _
    ·exact i7 E3 _
    ·exact((O.setCell lR _).setCell (by show w.heap.size<=w.heap.size+1;omega) _).alloc (by simp[World.setCell];omega) _
end Go.Proofs.YtigokanoflkinaaGreatDoor
