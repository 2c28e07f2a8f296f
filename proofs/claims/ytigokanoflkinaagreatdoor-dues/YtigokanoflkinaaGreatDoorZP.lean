/- RfYZ, RgA, RgB, joined. -/
import Derived.Test.YtigokanoflkinaaGreatDoorRfUX
import Derived.Test.YtigokanoflkinaaGreatDoorZO
import Derived.Deep.AppendLies
import Derived.Deep.OwnRows
set_option maxHeartbeats 16000000
set_option maxRecDepth 20000
namespace Go.Proofs.YtigokanoflkinaaGreatDoor
set_option linter.unusedSimpArgs false
set_option linter.unusedVariables false
open Go.RowKit Por Go.Proofs.Tryz
open Value renaming int->kW,slice->kX,pointer->kY,bool->kZ,tuple->lB,string->lC
open IntKind renaming i64->lD
open Ending renaming returned->lF
open World renaming setCell->lG,cell?->lH
open Option renaming none->lI,some->lJ
open Bool renaming true->lK,false->lL
open Go renaming World->lM,Value->lN
open Obj renaming cells->lE
def yi (base:Nat):Prop:=∀t,prog.globalNamed "internal/strconv.uint64pow10" = lJ t->t<base
variable{P:Nat->Prop}{base:Nat}{w w':lM}
theorem Tab.chg (h:Tab w)(hl:yi base)(hc:Chg P w w')(hp:∀k,P k->base<=k)(hb:base<=w.heap.size):Tab w':=by
 unfold Tab Go.Lib.TabIs World.var? at *
 cases hg:prog.globalNamed "internal/strconv.uint64pow10" with
 |none=>simp[hg]at h
 |some t=>simp only[hg,jO]at h ⊢;have h1:=hl t hg;rw[hc.block t (by omega) (fun k=>by have:=hp t k;omega)];exact h
variable{R:Int}{F:Flt}
theorem FWf.gn (h:FWf R F):Gn F F.m:=fun i h6 ht=>by
  have h1:=h.none i h6 ht
  have h2:=h.kV i h6
  have h3:=h.runs0 h6
  omega
def REnds (base b:Nat)(F F1:Flt)(val:Tb->lN)(er:Int)(w w':lM):Prop:=∃G val' o',RfM base w' b G val' o'/\Chg (zN b F val) w w'/\(∀k,zN b G val' k->zN b F val k\/w.heap.size<=k)/\((er=0/\Settled F1 G)\/(er≠0/\G=F))
section
variable{base b:Nat} {F F1 G:Flt} {val val':Tb->lN} {o o':Old} {w V w':lM} {er:Int}
theorem RfM.kJ (h:RfM base w b F val o):∀k,zN b F val k->base<=k:=fun k hk=>by
  rcases hk with e|⟨t,h1,h2⟩
  · rw[e];exact h.low
  · exact(p6 (h.tb.own t h1) h2).1
theorem RfM.le (h:RfM base w b F val o):base<=w.heap.size:=ir (Nat.lt_of_le_of_lt h.low h.box.lt)
theorem REnds.kD (hm:RfM base w b F val o)(hb:Below w.heap.size w w')(he:er≠0):REnds base b F F1 val er w w':=⟨F,val,o,hm.iP hb,Chg.jE _ hb,fun k hk=>.inl hk,.inr ⟨he,rfl⟩⟩
theorem REnds.of (h0:Chg (zN b F val) w V)(h1:RfM base w' b G val' o')(hs:Settled F1 G)(h2:Chg (zN b F1 val') V w')(ho:∀k,zN b F1 val' k->zN b F val k\/w.heap.size<=k)(he:er=0):REnds base b F F1 val er w w':=by
 refine⟨G,val',o',h1,⟨h2.os.trans h0.os,h2.tape.trans h0.tape,h2.output.trans h0.output,eh h0.size h2.size,fun k hk hn=>(h2.block k (ez hk h0.size) (fun h3=>?_)).trans (h0.block k hk hn)⟩,?_,.inl ⟨he,hs⟩⟩
 ·rcases ho k h3 with a|a
  ·exact hn a
  ·omega
 ·obtain⟨z,rfl,_⟩:=hs;exact ho
theorem nP {R:Int} (hM:RfM base w b F val o) (hr:FWf R F) (hR:R<=999999999999990000) (ht:Tab w) :
    Calls prog 134 #[kY (lJ ⟨b,0,lI⟩)] w fun e w'=>e=lF (lB #[])/\∃G o',RfM base w' b G val o'/\Settled F G/\Chg (zN b F val) w w':=
  (Dy FU base b F val o w hM (hr.ready hR) hr.rfo ht hr.gn).mono (fun e w' ⟨h1,z,o',h2,h3,h4⟩=>⟨h1,_,o',h2,⟨z,rfl,h3⟩,h4⟩)
end
theorem pB {α:Type}(f g h:Nat->α)(n:Nat):((List.range n).flatMap fun u=>[f u,g u,h u]).length=n*3:=by
 induction n with
 |zero=>rfl
 |succ n ih=>rw[jy,jA,eK,ih];simp;omega
variable{n i:Nat}
theorem Bw {α:Type}(f g h:Nat->α)(hi:i<n)(x:α):(((List.range n).flatMap fun u=>[f u,g u,h u]).set (i*3+1) x=(List.range n).flatMap fun u=>[f u,if u=i then x else g u,h u])/\(((List.range n).flatMap fun u=>[f u,g u,h u]).set (i*3+2) x=(List.range n).flatMap fun u=>[f u,g u,if u=i then x else h u]):=by
 constructor
 ·apply List.ext_getElem?;intro q;rw[iX,pB];by_cases m:q<n*3
  ·obtain⟨a,r,rfl,o⟩:∃a r,q=a*3+r/\r<3:=⟨q/3,q%3,by omega,by omega⟩;obtain⟨b,c,d⟩:=oH f g h n a (by omega);obtain⟨j,k,l⟩:=oH f (fun u=>if u=i then x else g u) h n a (by omega);obtain rfl|rfl|rfl:r=0\/r=1\/r=2:=by omega
   ·rw[ec (by omega)];rw[ia,b,j]
   ·rw[k];by_cases e:a=i
    ·rw[ed (by omega),ed (by omega),ed e]
    ·rw[ec (by omega),ec e,c]
   ·rw[ec (by omega),d,l]
  ·rw[eW (by rw[pB];omega),eW (by rw[pB];omega)];split
   ·omega
   ·rfl
 ·apply List.ext_getElem?;intro q;rw[iX,pB];by_cases m:q<n*3
  ·obtain⟨a,r,rfl,o⟩:∃a r,q=a*3+r/\r<3:=⟨q/3,q%3,by omega,by omega⟩;obtain⟨b,c,d⟩:=oH f g h n a (by omega);obtain⟨j,k,l⟩:=oH f g (fun u=>if u=i then x else h u) n a (by omega);obtain rfl|rfl|rfl:r=0\/r=1\/r=2:=by omega
   ·rw[ec (by omega)];rw[ia,b,j]
   ·rw[ec (by omega),c,k]
   ·rw[l];by_cases e:a=i
    ·rw[ed (by omega),ed (by omega),ed e]
    ·rw[ec (by omega),ec e,d]
  ·rw[eW (by rw[pB];omega),eW (by rw[pB];omega)];split
   ·omega
   ·rfl
theorem BR (a c:Int):numB a c=(xE 1 100 a&&xE 0 1000 c):=by
 unfold numB xE;rw[<-Bool.decide_and];exact decide_eq_decide.2 ⟨fun h=>⟨⟨h.1,h.2.1⟩,h.2.2⟩,fun h=>⟨h.1.1,h.1.2,h.2⟩⟩
section
variable{base b u:Nat} {F:Flt} {val:Tb->lN} {o:Old} {w:lM}
theorem RfM.kO (h:RfM base w b F val o)(hu:u<F.ug)(ht:F.ut u=lK):∃g z cap,lH w ⟨b,2,lI⟩=lJ (kX (lJ ⟨g,z,lI⟩) F.ug cap)/\g<w.heap.size/\lH w ⟨g,z+u*3+1,lI⟩=lJ (kW lD (o.wt u))/\w.frozen? ⟨g,z+u*3+1,lI⟩=lL/\lH w ⟨g,z+u*3+2,lI⟩=lJ (kW lD (o.cp u))/\w.frozen? ⟨g,z+u*3+2,lI⟩=lL/\zN b F val g/\(∀x:Int,RfM base (lG w ⟨g,z+u*3+1,lI⟩ (kW lD x)) b {F with uw:=zE F.uw u x} val {o with wt:=zE o.wt u x})/\(∀x:Int,RfM base (lG w ⟨g,z+u*3+2,lI⟩ (kW lD x)) b {F with uc:=zE F.uc u x} val {o with cp:=zE o.cp u x}):=by
 obtain⟨g,cap,c,j,s,y,A⟩:=lS (h.tb.own .kr trivial) (i:=u*3+1) (by show u*3+1<F.ug*3;omega);obtain⟨D,r,d,_,_,p,q⟩:=lS (h.tb.own .kr trivial) (i:=u*3+2) (by show u*3+2<F.ug*3;omega);obtain⟨G,B,C⟩:=oH (fun u=>val (.dem u)) (fun u=>Value.int lD (o.wt u)) (fun u=>Value.int lD (o.cp u)) F.ug u hu;rw[c]at d;obtain⟨f,_,_⟩:=nR d;(injection f with f;injection f with f;subst f);have E:=h.old.now u hu ht;refine⟨g,0,cap,?_,s,by rw[hJ,y];exact B,by rw[hJ];exact A,by rw[hJ,p];exact C,by rw[hJ];exact q,.inr ⟨.kr,trivial,by rw[c];rfl⟩,fun x=>?_,fun x=>?_⟩
 ·have:=h.box.cell 2 _ rfl;rw[this];show lJ (val .kr)=_;rw[c];rfl
 ·rw[eC];refine(h.put (F':={F with uw:=zE F.uw u x}) (o':={o with wt:=zE o.wt u x}) (t:=.kr) trivial c (u*3+1) _ rfl rfl rfl ?_ ⟨h.old.dm,fun v hv ht=>?_⟩).1
  ·funext t;by_cases a:t=.kr
   ·subst a;rw[jR];show(List.range F.ug).flatMap (fun v=>[val (.dem v),kW lD (zE o.wt u x v),kW lD (o.cp v)])=_;rw[show zJ F val o .kr=(List.range F.ug).flatMap (fun v=>[val (.dem v),kW lD (o.wt v),kW lD (o.cp v)])from rfl,(Bw (fun v=>val (.dem v)) (fun v=>Value.int lD (o.wt v)) (fun v=>Value.int lD (o.cp v)) hu _).1];refine congrArg (fun k=>(List.range F.ug).flatMap k) (funext fun v=>?_);unfold zE;by_cases e:v=u
    ·rw[ed e,ed e]
    ·rw[ec e,ec e]
   ·rw[j7 _ _ a]
    cases t with
    |kr=>exact absurd rfl a
    |_=>rfl
  ·obtain⟨l,m,n,j⟩:=h.old.now v hv ht;exact⟨l,by show zE o.wt u x v=zE F.uw u x v;unfold zE;rw[m],n,j⟩
 ·rw[eC];refine(h.put (F':={F with uc:=zE F.uc u x}) (o':={o with cp:=zE o.cp u x}) (t:=.kr) trivial c (u*3+2) _ rfl rfl rfl ?_ ⟨h.old.dm,fun v hv ht=>?_⟩).1
  ·funext t;by_cases a:t=.kr
   ·subst a;rw[jR];show(List.range F.ug).flatMap (fun v=>[val (.dem v),kW lD (o.wt v),kW lD (zE o.cp u x v)])=_;rw[show zJ F val o .kr=(List.range F.ug).flatMap (fun v=>[val (.dem v),kW lD (o.wt v),kW lD (o.cp v)])from rfl,(Bw (fun v=>val (.dem v)) (fun v=>Value.int lD (o.wt v)) (fun v=>Value.int lD (o.cp v)) hu _).2];refine congrArg (fun k=>(List.range F.ug).flatMap k) (funext fun v=>?_);unfold zE;by_cases e:v=u
    ·rw[ed e,ed e]
    ·rw[ec e,ec e]
   ·rw[j7 _ _ a]
    cases t with
    |kr=>exact absurd rfl a
    |_=>rfl
  ·obtain⟨l,m,n,j⟩:=h.old.now v hv ht;exact⟨l,m,by show zE o.cp u x v=zE F.uc u x v;unfold zE;rw[n],j⟩
end
variable{b:Nat}{val:Tb->lN}{o:Old}{x:Int}
theorem DG {n:Int}(hM:RfM base w b F val o)(hr:FWf R F)(hR:R<=999999999999990000)(ht:Tab w)(hl:yi base):Calls prog 74 #[kY (lJ ⟨b,0,lI⟩),kW lD x,kW lD n] w fun e w'=>e=lF (kW lD (xM F x n))/\REnds base b F (subF F x.toNat n) val (xM F x n) w w':=by
 have j:=hr.rfo;have y:=hM.v j.k1;have ac:=j.ug;have ab:=j.mg;go_enter func74,ntmps74;go_wp2_with fail;refine(nV y j).mono ?_;rintro e1 w1 ⟨rfl,T⟩;obtain rfl:=T.symm
 cases B:yH F x with
 |false=>(have a:xM F x n=7:=by unfold xM;rw[B];rfl);go_wp2;go_ret;exact⟨by rw[a];rfl,by rw[a];exact REnds.kD hM brf (by decide)⟩
 | true=>
  obtain⟨u,rfl,c,i⟩:=lV B;have hu:=j.ut u c i;(have ad:(u:Int)<(F.ug:Int):=by omega);(have h:(u:Int).toNat=u:=by omega);have lb:=hM.box.lt;obtain⟨J,K,aa,k4,Z,k1,f1,f⟩:=hM.kL hu;obtain⟨X,Q⟩:∃X,F.m.kV u=X:=⟨_,rfl⟩;have U:=hr.wait40 c;rw[Q]at k1 U;go_wp2_with fail;refine(nO y j hu).mono ?_;rintro e2 w2 ⟨rfl,T⟩;obtain rfl:=T.symm;obtain⟨Y,S⟩:∃Y,runs F.m u=Y:=⟨_,rfl⟩;have W:=hr.runs0 c;have H:=hr.tot u c;rw[S]at W H ⊢;rw[Q]at H;by_cases P:n<1
  ·(have a:xM F u n=8:=by unfold xM;rw[B];simp only[eS];rw[ed (.inl P)]);have d1:=ei P;go_wp2;go_ret;exact⟨by rw[a];rfl,by rw[a];exact REnds.kD hM brf (by decide)⟩
  ·have d1:=ee P;by_cases h2:40-Y-X<n
   ·(have a:xM F u n=8:=by unfold xM;rw[B];simp only[eS];rw[h,Q,S];rw[ed (.inr (by omega))]);have d2:=ei h2;go_wp2;go_ret;exact⟨by rw[a];rfl,by rw[a];exact REnds.kD hM brf (by decide)⟩
   ·(have a:xM F u n=0:=by unfold xM;rw[B];simp only[eS];rw[h,Q,S];rw[ec (by omega)]);have d2:=ee h2;(go_upto_region 7 with fail);obtain⟨C,z⟩:=f (X+n) (subF F u n).m (by rw[<-Q];rfl) rfl rfl;go_region;have q:=C.iP brf.drew;have p:=z.trans (Chg.jE _ brf.drew);have t:=ht.chg hl (z.trans (Chg.jE _ brf.drew)) hM.kJ hM.le;generalize(lG w ⟨J,K+u,lI⟩ (kW lD (X+n))).drew=V3 at q p t ⊢;go_wp2_with fail;refine(nP q (hr.sub c i (by have:=Q;omega) (by have:=Q;have:=S;omega)) hR t).mono ?_;rintro e9 w9 ⟨rfl,G,o9,D,E,A⟩;have L:=REnds.of (F:=F) (er:=0) p D E A (fun k hk=>.inl hk) rfl;go_wp2;go_ret;exact⟨by rw[a];rfl,by rw[a,h];exact L⟩
theorem DV {n:Int}(hM:RfM base w b F val o)(hr:FWf R F)(hR:R<=999999999999990000)(ht:Tab w)(hl:yi base):Calls prog 76 #[kY (lJ ⟨b,0,lI⟩),kW lD x,kW lD n] w fun e w'=>e=lF (kW lD (xN F x n))/\REnds base b F (subF F x.toNat (-n)) val (xN F x n) w w':=by
 have q:=hr.rfo;have M:=hM.v q.k1;have ab:=q.ug;have aa:=q.mg;go_enter func76,ntmps76;go_wp2_with fail;refine(nV M q).mono ?_;rintro e1 w1 ⟨rfl,hq⟩;obtain rfl:=hq.symm
 cases A:yH F x with
 |false=>(have a:xN F x n=7:=by unfold xN;rw[A];rfl);go_wp2;go_ret;exact⟨by rw[a];rfl,by rw[a];exact REnds.kD hM brf (by decide)⟩
 | true=>
  obtain⟨u,rfl,c,i⟩:=lV A;have hu:=q.ut u c i;(have ac:(u:Int)<(F.ug:Int):=by omega);(have h:(u:Int).toNat=u:=by omega);have lb:=hM.box.lt;obtain⟨E,H,S,k4,Q,W,f1,f⟩:=hM.kL hu;obtain⟨X,O⟩:∃X,F.m.kV u=X:=⟨_,rfl⟩;have P:=hr.wait40 c;rw[O]at W P;by_cases N:n<1
  ·(have a:xN F u n=8:=by unfold xN;rw[A];simp only[eS];rw[ed (.inl N)]);have d1:=ei N;go_wp2;go_ret;exact⟨by rw[a];rfl,by rw[a];exact REnds.kD hM brf (by decide)⟩
  ·have d1:=ee N;by_cases T:X<n
   ·(have a:xN F u n=8:=by unfold xN;rw[A];simp only[eS];rw[h,O];rw[ed (.inr (by omega))]);have d2:=ei T;go_wp2;go_ret;exact⟨by rw[a];rfl,by rw[a];exact REnds.kD hM brf (by decide)⟩
   ·(have a:xN F u n=0:=by unfold xN;rw[A];simp only[eS];rw[h,O];rw[ec (by omega)]);have d2:=ee T;(go_upto_region 6 with fail);obtain⟨B,y⟩:=f (X-n) (subF F u (-n)).m (by rw[<-O];rfl) rfl rfl;go_region;have l:=B.iP brf.drew;have j:=y.trans (Chg.jE _ brf.drew);have s:=ht.chg hl (y.trans (Chg.jE _ brf.drew)) hM.kJ hM.le;generalize(lG w ⟨E,H+u,lI⟩ (kW lD (X-n))).drew=V3 at l j s ⊢;go_wp2_with fail;refine(nP l (hr.sub c i (by have:=O;omega) (by have:=O;have:=hr.tot u c;omega)) hR s).mono ?_;rintro e9 w9 ⟨rfl,G,o9,C,D,z⟩;have I:=REnds.of (F:=F) (er:=0) j C D z (fun k hk=>.inl hk) rfl;go_wp2;go_ret;exact⟨by rw[a];rfl,by rw[a,h];exact I⟩
variable{y:Int}
theorem Dx (hM:RfM base w b F val o)(hr:FWf R F)(hR:R<=999999999999990000)(ht:Tab w)(hl:yi base):Calls prog 78 #[kY (lJ ⟨b,0,lI⟩),kW lD x,kW lD y] w fun e w'=>e=lF (kW lD (xP F x y))/\REnds base b F (finF F x.toNat y.toNat) val (xP F x y) w w':=by
 have g:=hr.rfo;have B:=hM.v g.k1;have ae:=g.ug;have ac:=g.mg;go_enter func78,ntmps78;go_wp2_with fail;refine(nV B g).mono ?_;rintro e1 w1 ⟨rfl,Q⟩;obtain rfl:=Q.symm;go_wp2_with fail;refine(sE B g).mono ?_;rintro e2 w2 ⟨rfl,Q⟩;obtain rfl:=Q.symm
 cases j:yH F x with
 |false=>(have a:xP F x y=7:=by unfold xP;rw[j];rfl);generalize yl F y=hm;go_wp2;go_ret;exact⟨by rw[a];rfl,by rw[a];exact REnds.kD hM brf (by decide)⟩
 | true=>
  cases l:yl F y with
  |false=>(have a:xP F x y=7:=by unfold xP;rw[j,l];rfl);go_wp2;go_ret;exact⟨by rw[a];rfl,by rw[a];exact REnds.kD hM brf (by decide)⟩
  |true=>
   obtain⟨u,rfl,q,p⟩:=lV j;have hu:=g.ut u q p;(have af:(u:Int)<(F.ug:Int):=by omega);(have i:(u:Int).toNat=u:=by omega);have lb:=hM.box.lt;obtain⟨m,rfl,n,I⟩:=pm l;have hm:=g.mt m n I;(have ad:(m:Int)<(F.mg:Int):=by omega);have Y:=l;(have h:(m:Int).toNat=m:=by omega);obtain⟨rg,ro,rc,L,M,aa,k5,U,k6,T,k7,f2,d⟩:=hM.kN (u:=u) (m:=m) hu hm;obtain⟨X,P⟩:∃X,F.m.on u m=X:=⟨_,rfl⟩;have S:=hr.on40 q n;rw[P]at k7 S;by_cases O:X=0
   ·(have a:xP F u m=8:=by unfold xP;rw[j,Y];simp only[Bool.and_self,eS];rw[i,h,P,ed (by omega)]);(have d1:(X == 0)=lK:=by rw[O];rfl);go_wp2;go_ret;exact⟨by rw[a];rfl,by rw[a];exact REnds.kD hM brf (by decide)⟩
   ·(have a:xP F u m=0:=by unfold xP;rw[j,Y];simp only[Bool.and_self,eS];rw[i,h,P,ec (by omega)]);have d1:=ef O;(go_upto_region 7 with fail);obtain⟨E,C⟩:=d (X-1) (finF F u m).m (by rw[<-P];rfl) rfl rfl;go_region;have s:=E.iP brf.drew;have r:=C.trans (Chg.jE _ brf.drew);have A:=ht.chg hl (C.trans (Chg.jE _ brf.drew)) hM.kJ hM.le;generalize(lG w ⟨L,M+m,lI⟩ (kW lD (X-1))).drew=V3 at s r A ⊢;go_wp2_with fail;refine(nP s (hr.fin q n (by have:=P;omega)) hR A).mono ?_;rintro e9 w9 ⟨rfl,G,o9,H,J,D⟩;have N:=REnds.of (F:=F) (er:=0) r H J D (fun k l=>.inl l) rfl;go_wp2;go_ret;exact⟨by rw[a];rfl,by rw[a,i,h];exact N⟩
theorem DM {wt cp:Int}(hM:RfM base w b F val o)(hr:FWf R F)(hR:R<=999999999999990000)(ht:Tab w)(hl:yi base):Calls prog 72 #[kY (lJ ⟨b,0,lI⟩),kW lD x,kW lD wt,kW lD cp] w fun e w'=>e=lF (kW lD (xh F x wt cp))/\REnds base b F (chgF F x.toNat wt cp) val (xh F x wt cp) w w':=by
 have z:=hr.rfo;have P:=hM.v z.k1;have aa:=z.ug;have Z:=z.mg;go_enter func72,ntmps72;go_wp2_with fail;refine(nV P z).mono ?_;rintro e1 w1 ⟨rfl,S⟩;obtain rfl:=S.symm
 cases E:yH F x with
 |false=>(have l:xh F x wt cp=7:=by unfold xh;rw[E];rfl);clear E;go_wp2;go_ret;exact⟨by rw[l];rfl,by rw[l];exact REnds.kD hM brf (by decide)⟩
 |true=>
  obtain⟨u,rfl,J,p⟩:=lV E;have U:=z.ut u J p;(have ab:(u:Int)<(F.ug:Int):=by omega);(have O:(u:Int).toNat=u:=by omega);have lb:=hM.box.lt;go_wp2_with fail;refine(AE).mono ?_;rintro e2 w2 ⟨rfl,S⟩;obtain rfl:=S.symm
  cases s:numB wt cp with
  |false=>(have l:xh F u wt cp=4:=by unfold xh;rw[E,<-BR,s];rfl);clear s;go_wp2;go_ret;exact⟨by rw[l];rfl,by rw[l];exact REnds.kD hM brf (by decide)⟩
  |true=>(have l:xh F u wt cp=0:=by unfold xh;rw[E,<-BR,s];rfl);(have N:1<=wt/\wt<=100/\0<=cp/\cp<=1000:=by unfold numB at s;exact iI s);clear s;obtain⟨g,h,B,L,q,K,Q,_,_,a,f,_⟩:=hM.kO U p;have d:=f wt;have c:Chg (zN b F val) w (lG w ⟨g,h+u*3+1,lI⟩ (kW lD wt)):=Chg.set a _ _ _;clear f a;(go_upto_region 8 with fail);have j:=d;have i:=c;generalize lG w ⟨g,h+u*3+1,lI⟩ (kW lD wt)=r at j i ⊢;clear L q K Q d c;have lb:=j.box.lt;obtain⟨g,h,B,L,q,_,_,K,Q,a,_,f⟩:=j.kO (u:=u) U p;dsimp only at L K;have d:=f cp;have c:Chg (zN b F val) r (lG r ⟨g,h+u*3+2,lI⟩ (kW lD cp)):=Chg.set a _ _ _;clear f a;(go_upto_region 9 with fail);have t:=i.trans c;have A:=ht.chg hl (i.trans c) hM.kJ hM.le;generalize lG r ⟨g,h+u*3+2,lI⟩ (kW lD cp)=V4 at d t A ⊢;clear L q K Q c j i;go_wp2_with fail;refine(nP d (hr.chg J p ⟨N.1,N.2.1⟩ N.2.2) hR A).mono ?_;rintro e9 w9 ⟨rfl,G,o9,H,I,D⟩;have M:=REnds.of (F:=F) (er:=0) t H I D (fun k hk=>.inl hk) rfl;clear H I D;go_wp2;go_ret;exact⟨by rw[l];rfl,by rw[l,O];exact M⟩
section
variable{base b u:Nat} {F:Flt} {val:Tb->lN} {o:Old} {w:lM}
theorem RfM.spotUsed (h:RfM base w b F val o){r:Nat}(hu:u<F.ug)(hr:r<F.k):∃rg ro rc g z cap,lH w ⟨b,8,lI⟩=lJ (kX (lJ ⟨rg,ro,lI⟩) F.ug rc)/\rg<w.heap.size/\lH w ⟨rg,ro+u,lI⟩=lJ (kX (lJ ⟨g,z,lI⟩) F.k cap)/\g<w.heap.size/\lH w ⟨g,z+r,lI⟩=lJ (kW lD (F.ks u r))/\w.frozen? ⟨g,z+r,lI⟩=lL/\zN b F val g/\∀(x:Int) (us:Nat->Nat->Int),us=yC F.ks u r x->RfM base (lG w ⟨g,z+r,lI⟩ (kW lD x)) b {F with ks:=us} val o:=by
 obtain⟨ro,rc,f,_,_,l⟩:=h.tb.cells .ks trivial;obtain⟨rg,p,j,m,n⟩:=l u _ (JF _ hu);obtain⟨g,cap,a,A,q,s,y⟩:=lS (h.tb.own (.usr u) hu) (i:=r) (by rw[show Tb.sz (.usr u)=1 from rfl,ic];exact hr);refine⟨rg,p,rc,g,0,cap,?_,m,by rw[n,a];rfl,q,by rw[s];exact JF _ hr,y,.inr ⟨.usr u,hu,by rw[a];rfl⟩,fun x us hx=>?_⟩
 ·have:=h.box.cell 8 _ rfl;rw[this];show lJ (val .ks)=_;rw[f,j];rfl
 ·rw[eC];refine(h.put (F':={F with ks:=us}) (o':=o) (t:=.usr u) hu a r _ rfl rfl rfl ?_ ⟨h.old.dm,h.old.now⟩).1;funext t;by_cases d:t=.usr u
  ·subst d;rw[jR]
   exact(mr _ _ _ _ _ (fun k hk=>by
    show Value.int lD (us u k)=_
    rw[hx]
    by_cases c:k=r
    ·subst c;rw[ed rfl,nU]
    ·rw[ec c,pl _ _ _ _ c])).symm
  ·rw[j7 _ _ d]
   cases t with
   |usr v=>show ni F.k (us v)=ni F.k (F.ks v);rw[hx,mR _ _ _ (fun e=>d (by rw[e]))]
   |_=>rfl
theorem RfM.spotIdle (h:RfM base w b F val o){r:Nat}(hr:r<F.k):∃g z cap,lH w ⟨b,9,lI⟩=lJ (kX (lJ ⟨g,z,lI⟩) F.k cap)/\g<w.heap.size/\lH w ⟨g,z+r,lI⟩=lJ (kW lD (F.ku r))/\w.frozen? ⟨g,z+r,lI⟩=lL/\zN b F val g/\∀(x:Int) (ds:Nat->Int),ds=zE F.ku r x->RfM base (lG w ⟨g,z+r,lI⟩ (kW lD x)) b {F with ku:=ds} val o:=by
 obtain⟨g,cap,c,l,e,f,j⟩:=lS (h.tb.own .ku trivial) (i:=r) (by rw[show Tb.sz .ku=1 from rfl,ic];exact hr);refine⟨g,0,cap,?_,e,by rw[f];exact JF _ hr,j,.inr ⟨.ku,trivial,by rw[c];rfl⟩,fun x ds hx=>?_⟩
 ·have:=h.box.cell 9 _ rfl;rw[this];show lJ (val .ku)=_;rw[c];rfl
 ·rw[eC];refine(h.put (F':={F with ku:=ds}) (o':=o) (t:=.ku) trivial c r _ rfl rfl rfl ?_ ⟨h.old.dm,h.old.now⟩).1;funext t;by_cases d:t=.ku
  ·subst d;rw[jR]
   exact(mr _ _ _ _ _ (fun k hk=>by
    show Value.int lD (ds k)=_
    rw[hx];unfold zE;by_cases a:k=r;(rw[ed a,ed a]);(rw[ec a,ec a]))).symm
  ·rw[j7 _ _ d]
   cases t with
   |ku=>exact absurd rfl d
   |_=>rfl
theorem RfM.kM (h:RfM base w b F val o)(hu:u<F.ug):∃g z cap,lH w ⟨b,3,lI⟩=lJ (kX (lJ ⟨g,z,lI⟩) F.ug cap)/\g<w.heap.size/\lH w ⟨g,z+u,lI⟩=lJ (kZ (F.ut u))/\w.frozen? ⟨g,z+u,lI⟩=lL/\zN b F val g/\RfM base (lG w ⟨g,z+u,lI⟩ (kZ lL)) b {F with ut:=yZ F.ut u lL} val o:=by
 obtain⟨g,cap,d,p,l,m,n⟩:=lS (h.tb.own .kt trivial) (i:=u) (by rw[show Tb.sz .kt=1 from rfl,ic];exact hu);refine⟨g,0,cap,?_,l,by rw[m];exact JF _ hu,n,.inr ⟨.kt,trivial,by rw[d];rfl⟩,?_⟩
 ·have:=h.box.cell 3 _ rfl;rw[this];show lJ (val .kt)=_;rw[d];rfl
 ·rw[eC];refine(h.put (F':={F with ut:=yZ F.ut u lL}) (o':=o) (t:=.kt) trivial d u _ rfl rfl rfl ?_ ⟨h.old.dm,fun v hv ht=>?_⟩).1
  ·funext t;by_cases f:t=.kt
   ·subst f;rw[jR]
    exact(mr _ _ _ _ _ (fun k hk=>by
     show Value.bool (yZ F.ut u lL k)=_
     unfold yZ;by_cases c:k=u;(rw[ed c,ed c]);(rw[ec c,ec c]))).symm
   ·rw[j7 _ _ f]
    cases t with
    |kt=>exact absurd rfl f
    |_=>rfl
  ·(have j:v≠u:=fun e=>by have a:yZ F.ut u lL v=lK:=ht;rw[e,mX]at a;cases a);exact h.old.now v hv (by have a:yZ F.ut u lL v=lK:=ht;rw[nl _ _ j]at a;exact a)
theorem RfM.kU {s s':FM}(h:RfM base w b (withM F s) val o)(h1:∀v,v<F.ug->s'.kV v=s.kV v)(h2:∀v,v<F.ug->∀l,l<F.mg->s'.on v l=s.on v l)(h3:s'.ky=s.ky):RfM base w b (withM F s') val o:=by
 refine⟨h.box,h.low,⟨fun t ht=>?_,h.tb.kB⟩,⟨h.old.dm,h.old.now⟩⟩
 have e:zJ (withM F s') val o t=zJ (withM F s) val o t:=by
  cases t with
  |kV=>exact iJ (fun v hv=>by show Value.int lD (s'.kV v)=kW lD (s.kV v);rw[h1 v (iW.1 hv)])
  |off=>show ni F.ug s'.ky=ni F.ug s.ky;rw[h3]
  |rnr u=>exact iJ (fun l hl=>by show Value.int lD (s'.on u l)=kW lD (s.on u l);rw[h2 u ht l (iW.1 hl)])
  |_=>rfl
 rw[e];exact h.tb.own t ht
theorem RfM.breaks {m:Nat}{s:FM}(h:RfM base w b (withM F s) val o)(hm:m<F.mg):∃g z cap,lH w ⟨b,1,lI⟩=lJ (kX (lJ ⟨g,z,lI⟩) F.mg cap)/\g<w.heap.size/\(∃v,lH w ⟨g,z+m,lI⟩=lJ v)/\w.frozen? ⟨g,z+m,lI⟩=lL/\zN b F val g/\RfM base (lG w ⟨g,z+m,lI⟩ (kX lI 0 0)) b {F with mt:=yZ F.mt m lL,ms:=yM F.ms m (fun _=>0),m:=s} val o:=by
 obtain⟨g,cap,c,A,n,p,q⟩:=lS (h.tb.own .size trivial) (i:=m) (by rw[show Tb.sz .size=1 from rfl,ic];exact hm);refine⟨g,0,cap,?_,n,⟨_,p.trans (JF _ hm)⟩,q,.inr ⟨.size,trivial,by rw[c];rfl⟩,?_⟩
 ·have:=h.box.cell 1 _ rfl;rw[this];show lJ (val .size)=_;rw[c];rfl
 ·rw[eC]
  have u:∀t,xF {F with mt:=yZ F.mt m lL,ms:=yM F.ms m (fun _=>0),m:=s} t->xF (withM F s) t:=fun t ht=>by
   cases t with
   |szr i=>
    obtain⟨x,y⟩:=ht;refine⟨x,?_⟩;have a:yZ F.mt m lL i=lK:=y;by_cases e:i=m
    ·rw[e,mX]at a;cases a
    ·rw[nl _ _ e]at a;exact a
   |_=>exact ht
  have l:=(h.tb.set (t:=.size) trivial c m (kX lI 0 0)).sub u;refine⟨nF h.box (mI w g m _) (fun e=>mC (h.tb.own .size trivial) h.box (Tb.nef .size) (by rw[c];exact e)),h.low,⟨fun t ht=>?_,l.kB⟩,⟨h.old.dm,h.old.now⟩⟩;have r:=l.own t ht
  have e:zJ {F with mt:=yZ F.mt m lL,ms:=yM F.ms m (fun _=>0),m:=s} val o t=zF (zJ (withM F s) val o) .size ((zJ (withM F s) val o .size).set m (kX lI 0 0)) t:=by
   by_cases f:t=.size
   ·subst f;rw[jR]
    exact(mr _ _ _ _ _ (fun k hk=>by
     show(if yZ F.mt m lL k then val (.szr k)else kX lI 0 0)=_
     by_cases d:k=m
     ·rw[ed d,d,mX];rfl
     ·rw[ec d,nl _ _ d])).symm
   ·rw[j7 _ _ f]
    cases t with
    |size=>exact absurd rfl f
    |szr i=>(have j:i≠m:=fun e=>by have a:yZ F.mt m lL i=lK:=ht.2;rw[e,mX]at a;cases a);show ni F.k (yM F.ms m (fun _=>0) i)=ni F.k (F.ms i);rw[l3 _ _ j]
    |_=>rfl
  rw[e];exact r
end
theorem vT (hM:RfM base w b F val o)(ho:RfO F):Calls prog 113 #[kY (lJ ⟨b,0,lI⟩),kW lD x,kW lD y] w fun e w'=>e=lF (yh (yH F x&&yl F y) (kW lD (F.m.on x.toNat y.toNat)) (kW lD 0))/\w'=w:=by
 have c:=hM.v ho.k1;have z:=ho.ug;have r:=ho.mg;have p:=ho.k4;have N:=hM.box.lt;go_enter func113,ntmps113;go_wp2_with fail;refine(nV c ho).mono ?_;rintro G R ⟨rfl,j⟩;obtain rfl:=j.symm;go_wp2_with fail;refine(sE c ho).mono ?_;rintro H S ⟨rfl,j⟩;obtain rfl:=j.symm
 cases d:yH F x with
 |false=>have g:=d;generalize yl F y=hmm;go_wp2;go_ret2;exact⟨by rw[g];rfl,rfl⟩
 |true=>
  have g:=d;obtain⟨u,rfl,E,l⟩:=lV d;have t:=ho.ut u E l;(have A:(u:Int)<(F.ug:Int):=by omega)
  cases f:yl F y with
  |false=>have h:=f;go_wp2;go_ret2;exact⟨by rw[g,h];rfl,rfl⟩
  |true=>have h:=f;obtain⟨m,rfl,D,k⟩:=pm f;have q:=ho.mt m D k;(have s:(m:Int)<(F.mg:Int):=by omega);obtain⟨P,Q,O,J,T,n,K,C,L,B,M,I,_⟩:=hM.kN (u:=u) (m:=m) t q;go_wp2;go_ret2;exact⟨by rw[g,h];rfl,rfl⟩
theorem vV (hM:RfM base w b F val o)(ho:RfO F):Calls prog 115 #[kY (lJ ⟨b,0,lI⟩),kW lD x] w fun e w'=>e=lF (yh (yH F x) (kW lD (F.m.kV x.toNat)) (kW lD 0))/\w'=w:=by
 have g:=hM.v ho.k1;have p:=ho.ug;have k:=ho.mg;have j:=ho.k4;have C:=hM.box.lt;go_enter func115,ntmps115;go_wp2_with fail;refine(nV g ho).mono ?_;rintro t D ⟨rfl,l⟩;obtain rfl:=l.symm
 cases c:yH F x with
 |false=>have d:=c;go_wp2;go_ret2;exact⟨by rw[d];rfl,rfl⟩
 |true=>have d:=c;obtain⟨u,rfl,s,h⟩:=lV c;have n:=ho.ut u s h;(have q:(u:Int)<(F.ug:Int):=by omega);obtain⟨z,E,i,B,r,A,y,_⟩:=hM.kL n;go_wp2;go_ret2;exact⟨by rw[d];rfl,rfl⟩
theorem AV (hM:RfM base w b F val o)(ho:RfO F):Calls prog 119 #[kY (lJ ⟨b,0,lI⟩),kW lD x] w fun e w'=>e=lF (yh (yH F x) (lC (F.due x.toNat)) (lC ⟨#[]⟩))/\w'=w:=by
 have h:=hM.v ho.k1;have n:=ho.ug;have l:=ho.mg;have k:=ho.k4;have B:=hM.box.lt;go_enter func119,ntmps119;go_wp2_with fail;refine(nV h ho).mono ?_;rintro t C ⟨rfl,m⟩;obtain rfl:=m.symm
 cases c:yH F x with
 |false=>have g:=c;go_wp2;go_ret2;exact⟨by rw[g];rfl,rfl⟩
 |true=>have g:=c;obtain⟨u,rfl,s,d⟩:=lV c;have j:=ho.ut u s d;(have p:(u:Int)<(F.ug:Int):=by omega);obtain⟨z,D,i,A,r,q,y,_⟩:=hM.spotDue j;rw[(hM.old.now u j d).2.2.2]at q;go_wp2;go_ret2;exact⟨by rw[g];rfl,rfl⟩
theorem vM (hM:RfM base w b F val o)(ho:RfO F):Calls prog 117 #[kY (lJ ⟨b,0,lI⟩),kW lD x] w fun e w'=>e=lF (yh (xB F x) (kW lD (F.m.ky x.toNat)) (kW lD 0))/\w'=w:=by
 have g:=hM.v ho.k1;have n:=ho.ug;have j:=ho.mg;have i:=ho.k4;have A:=hM.box.lt;go_enter func117,ntmps117;go_wp2_with fail;refine(wN g ho).mono ?_;rintro r B ⟨rfl,k⟩;obtain rfl:=k.symm
 cases c:xB F x with
 |false=>have d:=c;go_wp2;go_ret2;exact⟨by rw[d];rfl,rfl⟩
 |true=>have d:=c;obtain⟨u,rfl,l⟩:=rI c;(have p:(u:Int)<(F.ug:Int):=by omega);obtain⟨t,C,h,z,q,y,s,_⟩:=hM.spotRev l;go_wp2;go_ret2;exact⟨by rw[d];rfl,rfl⟩
theorem Av (hM:RfM base w b F val o)(ho:RfO F):Calls prog 121 #[kY (lJ ⟨b,0,lI⟩),kW lD x,kW lD y] w fun e w'=>e=lF (yh (xB F x&&yx F y) (kW lD (F.ks x.toNat y.toNat)) (kW lD 0))/\w'=w:=by
 have h:=hM.v ho.k1;have C:=ho.ug;have s:=ho.mg;have q:=ho.k4;have O:=hM.box.lt;go_enter func121,ntmps121;go_wp2_with fail;refine(wN h ho).mono ?_;rintro I S ⟨rfl,t⟩;obtain rfl:=t.symm
 cases f:xB F x with
 |false=>have a:=f;go_wp2;go_ret2;exact⟨by rw[a];rfl,rfl⟩
 | true=>
  have a:=f;obtain⟨u,rfl,B⟩:=rI f;(have D:(u:Int)<(F.ug:Int):=by omega);have H:=hM.box.cell 0 _ rfl;by_cases l:y<0
  ·(have c:yx F y=lL:=by unfold yx;rw[ee (show¬ 0<=y by omega)];rfl);have n:=ei l;go_wp2;go_ret2;exact⟨by rw[a,c];rfl,rfl⟩
  ·have n:=ee l;by_cases m:(F.k:Int)<=y
   ·(have c:yx F y=lL:=by unfold yx;rw[ee (show¬ y<(F.k:Int) by omega)];simp);have p:=ei m;go_wp2;go_ret2;exact⟨by rw[a,c];rfl,rfl⟩
   ·(have i:yx F y=lK:=by unfold yx;rw[ei (show 0<=y by omega),ei (show y<(F.k:Int) by omega)];rfl);have c:=i;have p:=ee m;obtain⟨r,rfl,z⟩:=rJ i;(have A:(r:Int)<(F.k:Int):=by omega);obtain⟨Q,R,P,K,T,j,L,G,M,E,N,J,_⟩:=hM.spotUsed (u:=u) (r:=r) B z;go_wp2;go_ret2;exact⟨by rw[a,c];rfl,rfl⟩
theorem wZ (hM:RfM base w b F val o)(ho:RfO F):Calls prog 123 #[kY (lJ ⟨b,0,lI⟩),kW lD y] w fun e w'=>e=lF (yh (yx F y) (kW lD (F.ku y.toNat)) (kW lD 0))/\w'=w:=by
 have t:=ho.ug;have p:=ho.mg;have n:=ho.k4;have D:=hM.box.lt;go_enter func123,ntmps123;have x:=hM.box.cell 0 _ rfl;by_cases h:y<0
 ·(have a:Hid (yx F y=lL):=by unfold Hid yx;rw[ee (show¬ 0<=y by omega)];rfl);have l:=ei h;go_wp2;go_ret2;exact⟨by rw[a.out];rfl,rfl⟩
 ·have l:=ee h;by_cases i:(F.k:Int)<=y
  ·(have a:Hid (yx F y=lL):=by unfold Hid yx;rw[ee (show¬ y<(F.k:Int) by omega)];simp);have m:=ei i;go_wp2;go_ret2;exact⟨by rw[a.out];rfl,rfl⟩
  ·(have f:yx F y=lK:=by unfold yx;rw[ei (show 0<=y by omega),ei (show y<(F.k:Int) by omega)];rfl);have a:=hid f;have m:=ee i;obtain⟨r,rfl,q⟩:=rJ f;(have s:(r:Int)<(F.k:Int):=by omega);clear f;obtain⟨A,E,g,C,u,B,z,_⟩:=hM.spotIdle q;go_wp2;go_ret2;exact⟨by rw[a.out];rfl,rfl⟩
theorem Eb (hM:RfM base w b F val o):Calls prog 125 #[kY (lJ ⟨b,0,lI⟩)] w fun e w'=>e=lF (kW lD F.ck)/\w'=w:=by
 have c:=hM.box.lt;have a:=hM.box.cell 10 _ rfl;go_enter func125,ntmps125;go_wp2;go_ret;exact⟨rfl,rfl⟩
theorem Dh (hM:RfM base w b F val o)(hr:FWf R F)(hR:R<=999999999999990000)(ht:Tab w)(hl:yi base):Calls prog 70 #[kY (lJ ⟨b,0,lI⟩),kW lD x] w fun e w'=>e=lF (kW lD (duE F x))/\REnds base b F (yq F x.toNat) val (duE F x) w w':=by
 have HR:=hr;have C:=hr.rfo;have HT:=ht;have HL:=hl;clear hr ht hl;have ac:=hM.v C.k1;have an:=C.ug;have al:=C.mg;go_enter func70,ntmps70;go_wp2_with fail;refine(nV ac C).mono ?_;rintro e1 w1 ⟨rfl,hq⟩;obtain rfl:=hq.symm
 cases N:yH F x with
 |false=>(have E:duE F x=7:=by unfold duE;rw[N];rfl);clear N;go_wp2;go_ret;exact⟨by rw[E];rfl,by rw[E];exact REnds.kD hM brf (by decide)⟩
 | true=>
  obtain⟨u,rfl,T,z⟩:=lV N;have hu:=C.ut u T z;(have ao:(u:Int)<(F.ug:Int):=by omega);clear z;(have ab:(u:Int).toNat=u:=by omega);have lb:=hM.box.lt;(have E:duE F u=0:=by unfold duE;rw[N];rfl);obtain⟨j,p,J,k3,A,X,f1,q,P⟩:=hM.kM hu;have d:=P;have c:Chg (zN b F val) w (lG w ⟨j,p+u,lI⟩ (kZ lL)):=Chg.set q _ _ _;clear P q;(go_upto_region 5 with fail);have i:=d;have s:=c;generalize lG w ⟨j,p+u,lI⟩ (kZ lL)=I at i s ⊢;clear k3 A X f1 d c;have lb:=i.box.lt;obtain⟨j,p,J,k4,A,X,f1,a⟩:=i.kL (u:=u) hu;dsimp only at k4 X;obtain⟨g,f⟩:=a 0 (⟨zE F.m.kV u 0,F.m.on,F.m.ky⟩:FM) rfl rfl rfl;have d:=g;have c:=f;clear a g f;(go_upto_region 6 with fail);have t:=s.trans c;generalize lG I ⟨j,p+u,lI⟩ (kW lD 0)=V4 at d t ⊢;clear k4 A X f1 c i s;(have H:RfM base V4 b (withM {F with ut:=yZ F.ut u lL} (⟨zE F.m.kV u 0,fun v l=>if v=u/\l<0 then 0 else F.m.on v l,F.m.ky⟩:FM)) val o:=by have e9:(fun v l=>if v=u/\l<0 then(0:Int)else F.m.on v l)=F.m.on:=(by funext v l;rw[ec (by omega)]);rw[e9];exact d);clear d;go_wp2
  go_loopg[6] F.mg (fun gg ix wr=>∃k:Nat,gg=F.mg-k/\k<=F.mg/\ix=kW lD k/\RfM base wr b (withM {F with ut:=yZ F.ut u lL} (⟨zE F.m.kV u 0,fun v l=>if v=u/\l<k then 0 else F.m.on v l,F.m.ky⟩:FM)) val o/\Chg (zN b F val) w wr)
  case atStart=>exact⟨0,rfl,ep _,rfl,H,t⟩
  case round=>
   clear H t;obtain⟨k,ak,hk,rfl,W,U⟩:=hrel;have lb:=W.box.lt;obtain⟨so,sc,uo,uc,am,aj,au,ar,D⟩:=W.v C.k1;have c1:=D.sz;dsimp only at c1;clear D;by_cases ag:k<F.mg
   ·(have af:(k:Int)<(F.mg:Int):=by omega);obtain ⟨rg,ro,rc,g2,z2,ah,k5,aq,k6,ap,k7,f2,a⟩:=W.kN (u:=u) (m:=k) hu ag;dsimp only at k5 k6 k7
    obtain⟨g,f⟩:=a 0 (⟨zE F.m.kV u 0,fun v l=>if v=u /\ l<(k+1)then 0 else F.m.on v l,F.m.ky⟩:FM) (by
     funext v l
     show(if v=u /\ l<k+1 then(0:Int)else F.m.on v l)=yC (fun v l=>if v=u /\ l<k then 0 else F.m.on v l) u k 0 v l
     unfold yC
     by_cases e:v=u /\ l=k
     ·rw[ed e,ed ⟨e.1,by omega⟩]
     ·rw[ec e]
      dsimp only
      by_cases e2:v=u /\ l<k
      ·rw[ed e2,ed ⟨e2.1,by omega⟩]
      ·rw[ec e2,ec (by omega)]) rfl rfl
    have ad:=U.trans f;clear a f U;go_wp2;go_roundg (F.mg-(k+1));exact⟨k+1,rfl,by omega,by go_num,g,ad⟩;omega
   ·(obtain rfl:k=F.mg:=by omega);have af:¬ (F.mg:Int)<(F.mg:Int):=by omega
    have Z:RfM base wr b (yq F u) val o:=by
     have K:=W.kU (s':=(yq F u).m) (fun v D=>rfl) (fun v D l hl=>by
      show yM F.m.on u (fun _=>0) v l=if v=u /\ l<F.mg then 0 else F.m.on v l
      by_cases e:v=u
      ·rw[ed ⟨e,hl⟩,e,mh]
      ·rw[ec (fun h=>e h.1),l3 _ _ e]) rfl
     refine⟨K.box,K.low,K.tb,⟨K.old.dm,fun v D ht=>?_⟩⟩;have S:yZ F.ut u lL v=lK:=ht;(have n:v≠u:=fun e=>by rw[e,mX]at S;cases S);obtain⟨q1,q2,q3,q4⟩:=K.old.now v D ht;exact⟨fun r hr=>(q1 r hr).trans (by show F.ud v r=yM F.ud u (fun _=>0) v r;rw[l3 _ _ n]),q2.trans (JJ _ _ n).symm,q3.trans (JJ _ _ n).symm,q4.trans (by show F.due v=yR F.due u ⟨#[]⟩ v;unfold yR;rw[ec n])⟩
    have aa:=HT.chg HL U hM.kJ hM.le;go_wp2_with fail;refine(nP Z (HR.dropU T) hR aa).mono ?_;rintro e9 w9 ⟨rfl,G,o9,O,Q,M⟩;have Y:=REnds.of (F:=F) (er:=0) U O Q M (fun k hk=>.inl hk) rfl;clear O Q M;go_wp2;go_ret;exact⟨by rw[E];rfl,by rw[E,ab];exact Y⟩
theorem CN (hM:RfM base w b F val o)(hr:FWf R F)(hR:R<=999999999999990000)(ht:Tab w)(hl:yi base):Calls prog 68 #[kY (lJ ⟨b,0,lI⟩),kW lD y] w fun e w'=>e=lF (kW lD (dmE F y))/\REnds base b F (yu F y.toNat) val (dmE F y) w w':=by
 have C:=hr.rfo;have HL:=hl;clear hl;have ae:=hM.v C.k1;have ap:=C.ug;have am:=C.mg;go_enter func68,ntmps68;go_wp2_with fail;refine(sE ae C).mono ?_;rintro e1 w1 ⟨rfl,hq⟩;obtain rfl:=hq.symm
 cases S:yl F y with
 |false=>(have H:dmE F y=7:=by unfold dmE;rw[S];rfl);clear S;go_wp2;go_ret;exact⟨by rw[H];rfl,by rw[H];exact REnds.kD hM brf (by decide)⟩
 | true=>
  obtain⟨m,rfl,A,U⟩:=pm S;have hm:=C.mt m A U;(have an:(m:Int)<(F.mg:Int):=by omega);(have ad:(m:Int).toNat=m:=by omega);(have H:dmE F m=0:=by unfold dmE;rw[S];rfl);clear S U;(have J:RfM base w b (withM F (xC F.m m 0)) val o:=by rw[Ac];exact hM);go_wp2
  go_loopg[6] F.ug (fun gg ix wr=>∃k:Nat,gg=F.ug-k/\k<=F.ug/\ix=kW lD k/\RfM base wr b (withM F (xC F.m m k)) val o/\Chg (zN b F val) w wr)
  case atStart=>exact⟨0,rfl,ep _,rfl,J,Chg.refl _ _⟩
  case round=>
   clear J;obtain⟨k,al,hk,rfl,s,M⟩:=hrel;have lb:=s.box.lt;obtain⟨so,sc,uo,uc,ao,ak,ar,aq,D⟩:=s.v C.k1;have c2:=D.us;dsimp only at c2;clear D;by_cases z:k<F.ug
   ·(have ah:(k:Int)<(F.ug:Int):=by omega);have aj:=hr.wait40 (u:=k) (by omega);have ai:=hr.on40 (u:=k) (m:=m) (by omega) A;obtain⟨X,hX⟩:∃x,F.m.kV k=x:=⟨_,rfl⟩;obtain⟨Y,hY⟩:∃x,F.m.on k m=x:=⟨_,rfl⟩;obtain⟨rg,ro,rc,g2,z2,O,k5,ab,k6,aa,k7,f2,_⟩:=s.kN (u:=k) (m:=m) z hm;dsimp only at k5 k6 k7;rw[show(xC F.m m k).on k m=Y from by rw[<-hY];exact ec (by omega)]at k7;obtain⟨n,p,N,k4,B,k1,f1,a⟩:=s.kL (u:=k) z;dsimp only at k4 k1;rw[show(xC F.m m k).kV k=X from by rw[<-hX];exact ec (by omega)]at k1;obtain⟨j,g⟩:=a (X+Y) ⟨zE (xC F.m m k).kV k (X+Y),(xC F.m m k).on,(xC F.m m k).ky⟩ rfl rfl rfl;have f:=j;have c:=g;clear a j g;rw[hX]at aj;rw[hY]at ai;(go_upto_region 7 with fail);go_region;have d:=f.iP brf.drew;have r:=(M.trans c).trans (Chg.jE _ brf.drew);generalize(lG wr ⟨n,p+k,lI⟩ (kW lD (X+Y))).drew=V6 at d r ⊢;clear k5 ab k6 aa k7 f2 k4 B k1 f1 f c s M c2 lb;have lb:=d.box.lt;obtain⟨rg,ro,rc,g2,z2,O,k5,ab,k6,aa,k7,f2,a⟩:=d.kN (u:=k) (m:=m) z hm;dsimp only at k5 k6 k7;obtain⟨j,g⟩:=a 0 (xC F.m m (k+1)) (by rw[ru]) (by rw[ru,hX,hY]) (by rw[ru];rfl);have af:=r.trans g;clear a g r;go_wp2;go_roundg (F.ug-(k+1));exact⟨k+1,rfl,by omega,by go_num,j,af⟩;omega
   ·(obtain rfl:k=F.ug:=by omega);(have ah:¬ (F.ug:Int)<(F.ug:Int):=by omega);have d:RfM base wr b (withM F (xC F.m m 6)) val o:=s.kU (fun v D=>by show(if v<6 then _ else _)=(if v<F.ug then _ else _);rw[ed D,ed (by omega)]) (fun v D l hl=>by show(if v<6/\l=m then _ else _)=(if v<F.ug/\l=m then _ else _);by_cases e:l=m;(rw[ed ⟨by omega,e⟩,ed ⟨D,e⟩]);(rw[ec (fun h=>e h.2),ec (fun h=>e h.2)])) rfl;clear s;obtain⟨n,p,N,k1,B,⟨v1,k3⟩,f1,q,W⟩:=d.breaks hm;have f:=W;have c:Chg (zN b F val) wr (lG wr ⟨n,p+m,lI⟩ (kX lI 0 0)):=Chg.set q _ _ _;clear W q;(go_upto_region 10 with fail);have E:=M.trans c;have L:=ht.chg HL (M.trans c) hM.kJ hM.le;generalize lG wr ⟨n,p+m,lI⟩ (kX lI 0 0)=V7 at f E L ⊢;clear k1 B k3 f1 c M d c2 lb;go_wp2_with fail;refine(nP f (hr.dropM A) hR L).mono ?_;rintro e9 w9 ⟨rfl,G,o9,T,Z,Q⟩;have ac:=REnds.of (F:=F) (er:=0) E T Z Q (fun k hk=>.inl (by rcases hk with e|⟨t,h1,h2⟩;(exact .inl e);(exact .inr ⟨t,by cases t with|szr i=>exact⟨h1.1,by have q3:yZ F.mt m lL i=lK:=h1.2;by_cases e:i=m;(rw[e,mX]at q3;cases q3);(rw[nl _ _ e]at q3;exact q3)⟩|_=>exact h1,h2⟩))) rfl;clear T Z Q;go_wp2;go_ret;exact⟨by rw[H];rfl,by rw[H,ad];exact ac⟩
abbrev acF (F:Flt)(c:Int)(us:Nat->Nat->Int)(ds:Nat->Int):Flt:={F with ck:=c,ks:=us,ku:=ds}
theorem RfO.acc (h:RfO F)(c:Int)(us:Nat->Nat->Int)(ds:Nat->Int):RfO (acF F c us ds):=⟨h.k1,h.k4,h.mg,h.ug,h.mt,h.ut,h.ms,h.msz,h.msk,h.ud,h.udk,h.uw,h.on,h.tot,h.none,h.gone,h.kw,h.want,h.uw1⟩
def usK (F:Flt)(n:Int)(r u v q:Nat):Int:=if q<r\/(q=r/\v<u)then F.ks v q+F.ud v q*runs F.m v*n else F.ks v q
def idK (F:Flt)(n:Int)(r q:Nat):Int:=if q<r then F.ku q+(zB F 8 q-Por.sumI (fun u=>F.ud u q*runs F.m u) 6)*n else F.ku q
theorem Hu (F:Flt)(n:Int)(r u:Nat):usK F n r (u+1)=yC (usK F n r u) u r (F.ks u r+F.ud u r*runs F.m u*n):=by
 funext v q;unfold yC usK;by_cases e:v=u/\q=r
 ·rw[ed e,ed (.inr ⟨e.2,by omega⟩),e.1,e.2]
 ·rw[ec e];by_cases a:q<r\/(q=r/\v<u)
  ·rw[ed a,ed (by omega)]
  ·rw[ec a,ec (by omega)]
theorem Ho (F:Flt)(n:Int)(r:Nat):idK F n (r+1)=zE (idK F n r) r (F.ku r+(zB F 8 r-Por.sumI (fun u=>F.ud u r*runs F.m u) 6)*n):=by
 funext q;unfold zE idK;by_cases e:q=r
 ·rw[ed e,ed (by omega),e]
 ·rw[ec e];by_cases a:q<r
  ·rw[ed a,ed (by omega)]
  ·rw[ec a,ec (by omega)]
section
variable{base b u:Nat} {F:Flt} {val:Tb->lN} {o:Old} {w:lM}
theorem RfM.setCk (h:RfM base w b F val o) (x:Int):RfM base (lG w ⟨b,10,lI⟩ (kW lD x)) b {F with ck:=x} val o:=
  ⟨j6 h.box 10 _,h.low,⟨fun t ht=>oC (h.tb.own t ht) (mI w b 10 _) (fun k hk e=>mC (h.tb.own t ht) h.box (Tb.nef t) (hk.trans e.symm)),h.tb.kB⟩,⟨h.old.dm,h.old.now⟩⟩
theorem RfM.congrA {us:Nat->Nat->Int}{ds:Nat->Int}(h:RfM base w b F val o)(h1:∀v,v<F.ug->∀q,q<F.k->us v q=F.ks v q)(h2:∀q,q<F.k->ds q=F.ku q):RfM base w b {F with ks:=us,ku:=ds} val o:=by
 refine⟨h.box,h.low,⟨fun t ht=>?_,h.tb.kB⟩,⟨h.old.dm,h.old.now⟩⟩
 have e:zJ {F with ks:=us,ku:=ds} val o t=zJ F val o t:=by
  cases t with
  |ku=>exact iJ (fun q hq=>by show Value.int lD (ds q)=kW lD (F.ku q);rw[h2 q (iW.1 hq)])
  |usr v=>exact iJ (fun q hq=>by show Value.int lD (us v q)=kW lD (F.ks v q);rw[h1 v ht q (iW.1 hq)])
  |_=>rfl
 rw[e];exact h.tb.own t ht
theorem Li.at {B g z n cap i:Nat}{l:List Int}(h:Li B w (kX (lJ ⟨g,z,lI⟩) n cap) l)(hi:i<l.length):g<w.heap.size/\lH w ⟨g,z+i,lI⟩=lJ (kW lD (lm l i)):=by
 obtain⟨q,d,f,m,o,e,p⟩:=lS h (i:=i) (by rw[ic];exact hi);obtain⟨a,j,k⟩:=nR f;(injection a with a);(injection a with b c);subst b;subst c;refine⟨o,?_⟩;rw[e,eD,en hi];unfold lm;rw[ej,en hi];rfl
end
variable{u:Nat}
theorem FWf.runs40 (h:FWf R F)(hu:u<6):0<=runs F.m u/\runs F.m u<=40:=by
 have a:=h.runs0 hu;have b:=h.tot u hu;have c:=h.kV u hu;omega
variable{r:Nat}
theorem FWf.load (h:FWf R F)(hu:u<6)(hr:r<4):0<=F.ud u r*runs F.m u/\F.ud u r*runs F.m u<=400000:=by
 have a:=h.runs40 hu;have b:=h.ud u hu r hr;exact⟨il b.1 a.1,by have:=jh b.2 a.2 a.1 (by decide);omega⟩
variable{k:Nat}
theorem FWf.loads (h:FWf R F)(hk:k<=6)(hr:r<4):0<=Por.sumI (fun u=>F.ud u r*runs F.m u) k/\Por.sumI (fun u=>F.ud u r*runs F.m u) k<=2400000:=by
 refine⟨JQ (fun i hi=>(h.load (by omega) hr).1),?_⟩;have:=mD (f:=fun u=>F.ud u r*runs F.m u) (n:=k) (B:=400000) (fun i hi=>(h.load (by omega) hr).2);omega
theorem FWf.loads_ug (h:FWf R F) (r:Nat):Por.sumI (fun u=>F.ud u r*runs F.m u) 6=Por.sumI (fun u=>F.ud u r*runs F.m u) F.ug:=qh h.ug (fun i h1 h2=>by
  have h3:=h.none i h2 (h.rfo.gut h1 h2)
  have h4:=h.kV i h2
  have h5:=h.runs0 h2
  show F.ud i r*runs F.m i=0
  rw[show runs F.m i=0 by omega,jK])
theorem Fj {n:Int}(hM:RfM base w b F val o)(hr:FWf R F):Calls prog 80 #[kY (lJ ⟨b,0,lI⟩),kW lD n] w fun e w'=>e=lF (kW lD (yg F n))/\∃G,RfM base w' b G val o/\Chg (zN b F val) w w'/\((yg F n=0/\G=tickF F n)\/(yg F n≠0/\G=F)):=by
 have M:=hid hM;have l:=hid hr;have D:=hid hr.rfo;clear hM hr;have aS:=D.ug;have aP:=D.mg;have aO:=D.k4;have lb:=M.box.lt;have ap:=M.box.cell 10 _ rfl;have aq:=M.box.frozen 10;have aL:=l.ck;go_enter func80,ntmps80;by_cases h1:n<1
 ·(have g:Hid (yg F n=8):=by unfold Hid yg;rw[ed (.inl h1)]);have d1:=ei h1;go_wp2;go_ret;exact⟨by rw[g.out];rfl,F,M,Chg.refl _ _,.inr ⟨by rw[g.out];decide,rfl⟩⟩
 ·have d1:=ee h1;by_cases h2:1000<n
  ·(have g:Hid (yg F n=8):=by unfold Hid yg;rw[ed (.inr h2)]);have d2:=ei h2;go_wp2;go_ret;exact⟨by rw[g.out];rfl,F,M,Chg.refl _ _,.inr ⟨by rw[g.out];decide,rfl⟩⟩
  ·have d2:=ee h2;by_cases h3:1000000<F.ck+n
   ·(have g:Hid (yg F n=9):=by unfold Hid yg;rw[ec (by omega),ed (by omega)]);have d3:=ei h3;go_wp2;go_ret;exact⟨by rw[g.out];rfl,F,M,Chg.refl _ _,.inr ⟨by rw[g.out];decide,rfl⟩⟩
   ·(have g:Hid (yg F n=0):=by unfold Hid yg;rw[ec (by omega),ec (by omega)]);have d3:=ee h3;have af:=hid (M.setCk (F.ck+n));(go_upto_region 6 with fail);have h:Hid (RfM base (lG w ⟨b,10,lI⟩ (kW lD (F.ck+n))) b (acF F (F.ck+n) F.ks F.ku) val o):=af;have L:Hid (Chg (zN b F val) w (lG w ⟨b,10,lI⟩ (kW lD (F.ck+n)))):=Chg.set (.inl rfl) _ _ _;generalize lG w ⟨b,10,lI⟩ (kW lD (F.ck+n))=V3 at h L ⊢;clear af ap aq lb;go_wp2_with fail;refine (th (h.v D.k1) (D.acc _ _ _)).mono ?_;rintro e4 w4 ⟨v4,rfl,X,T⟩;have S:=hid (X);have ad:=hid (h.iP T);have ac:=hid (L.trans (Chg.jE _ T));have ag:=hid (h.kI);have ay:=D.k1;obtain ⟨pg,f,al,aA⟩:=lS X (i:=0) (by rw[ic,JB];exact ay);clear aA;rw[JB] at al;subst al;clear X T h L;obtain ⟨pz,ah⟩:∃ z:Nat,Hid (z=0):=⟨_,rfl⟩;(have am:Value.slice (lJ ⟨pg,0,lI⟩) F.k f=Value.slice (lJ ⟨pg,pz,lI⟩) F.k f:=by rw[ah.out]);rw[am] at S ⊢;clear am ah;(have ae:Hid (RfM base w4 b (acF F (F.ck+n) (usK F n 0 0) (idK F n 0)) val o):=by unfold Hid;have e1:usK F n 0 0=F.ks:=(by funext v q;unfold usK;rw[ec (by omega)]);have e2:idK F n 0=F.ku:=(by funext q;unfold idK;rw[ec (by omega)]);rw[e1,e2];exact ad);clear ad;go_wp2
    go_loopg[6] F.k (fun gg ix wr=>∃r:Nat,gg=F.k-r/\r<=F.k/\ix=kW lD r/\Hid (RfM base wr b (acF F (F.ck+n) (usK F n r 0) (idK F n r)) val o)/\Hid (Chg (zN b F val) w wr)/\Hid (Li V3.heap.size wr (kX (lJ ⟨pg,pz,lI⟩) F.k f) (zu (zB F 8) F.k)))
    case atStart=>exact⟨0,rfl,ep _,rfl,ae,ac,S⟩
    case round=>
     clear ae ac S;obtain⟨r,aN,hr,rfl,t,I,J⟩:=hrel;have lb:=t.box.lt;have c0:=t.box.cell 0 _ rfl;by_cases A:r<F.k
     ·(have aB:(r:Int)<(F.k:Int):=by omega);(have d:r<4:=by omega);obtain ⟨aG,cp⟩:=J.at (i:=r) (by rw[JB];exact A);rw[qv (nZ _ A)] at cp;have aR:=l.stat.kq r d;go_wp2
      go_loopg[7,8] F.ug (fun gg s7 ix wr=>∃k:Nat,gg=F.ug-k/\k<=F.ug/\s7=kW lD (zB F 8 r-Por.sumI (fun u=>F.ud u r*runs F.m u) k)/\ix=kW lD k/\Hid (RfM base wr b (acF F (F.ck+n) (usK F n r k) (idK F n r)) val o)/\Hid (Chg (zN b F val) w wr)/\Hid (Li V3.heap.size wr (kX (lJ ⟨pg,pz,lI⟩) F.k f) (zu (zB F 8) F.k)))
      case atStart=>exact⟨0,rfl,ep _,by show _=Value.int lD (zB F 8 r-0);rw[Int.sub_zero],rfl,t,I,J⟩
      case round=>
       clear t I J lb c0 aG cp;obtain⟨k,aM,hk,rfl,rfl,t,I,J⟩:=hrel;have lb:=t.box.lt;obtain⟨so,sc,uo,uc,aQ,aK,aY,aX,hv⟩:=t.v D.k1;have c2:=hv.us;dsimp only[acF]at c2;have aD:=l.loads (k:=k) (r:=r) (by omega) d;obtain⟨s,hs⟩:∃s,(zB F 8 r-Por.sumI (fun u=>F.ud u r*runs F.m u) k)=s:=⟨_,rfl⟩;(have aC:-2400000<=s/\s<=100000:=by omega);rw[hs];have HS:=hid hs;clear hs aD;by_cases W:k<F.ug
       ·(have az:(k:Int)<(F.ug:Int):=by omega);(have B:k<6:=by omega);obtain ⟨g1,o1,d1,e1,aI,wt,cp,rfl,aw,c4,_,_,au,cd,_⟩:=hv.user k W;obtain ⟨x,c5,aU,aV,an⟩:=cd r A;clear hv cd;go_wp2_with fail;refine (nO (t.v D.k1) (D.acc _ _ _) W).mono ?_;rintro e1 w1 ⟨rfl,Z⟩;obtain rfl:=Z.symm;obtain ⟨Y,hY⟩:∃ Y,runs F.m k=Y:=⟨_,rfl⟩;rw[show runs (acF F (F.ck+n) (usK F n r k) (idK F n r)).m k=Y from hY];have aF:=l.runs40 B;have H:=l.load B d;generalize hP:F.ud k r*runs F.m k=P at H
        have aJ:Y*x=P:=by
         cases ht:F.ut k with
         |true=>rw[<-hP,hY,show x=F.ud k r from an ht,jL]
         |false=>have h4:=l.none k B ht;have h5:=l.kV k B;rw[<-hP,<-hY,show runs F.m k=0 by omega,jC,jK]
        rw[hY]at aF;obtain⟨Q,hQ⟩:∃Q,n*P=Q:=⟨_,rfl⟩;(have ar:0<=Q/\Q<=400000000:=by rw[<-hQ];exact⟨il (by omega) H.1,by have:=jh (show n<=1000 by omega) H.2 H.1 (by decide);omega⟩);have aE:=l.ks k B r d;generalize E:F.ks k r=U at aE;(have p:Hid (usK F n r (k+1)=yC (usK F n r k) k r (U+Q)):=by unfold Hid;rw[Hu,hP,E,<-hQ,jL n P]);(have ao:Hid ((zB F 8 r-Por.sumI (fun u=>F.ud u r*runs F.m u) (k+1))=s-P):=by unfold Hid;rw[<-HS.out,<-hP];simp only[Por.sumI];omega);clear hY hP an;(go_upto_region 17 with fail);clear c2 c4 c5 aw au;obtain⟨rg,ro,rc,C,K,ak,k5,aH,k6,aW,k7,f2,a,c⟩:=t.spotUsed (u:=k) (r:=r) W A;dsimp only[acF]at k5 k6 k7;rw[show usK F n r k k r=U from by rw[<-E];exact ec (by omega)]at k7;have y:=hid (c (U+Q) _ p);have j:Hid (zN b F val C):=a;have N:Hid (Chg (zN b F val) w (lG wr ⟨C,K+r,lI⟩ (kW lD (U+Q)))):=I.trans (Chg.set j _ _ _);have O:Hid (Li V3.heap.size (lG wr ⟨C,K+r,lI⟩ (kW lD (U+Q))) (kX (lJ ⟨pg,pz,lI⟩) F.k f) (zu (zB F 8) F.k)):=pE J (Chg.set (P:=zN b F val) j _ _ _) ag;clear c a E I J p;go_region;go_wp2;go_roundg (F.ug-(k+1));exact⟨k+1,rfl,by omega,by rw[ao.out],by go_num,y.iP brf.drew,N.trans (Chg.jE _ brf.drew),O.iP brf.drew⟩;omega
       ·(obtain rfl:k=F.ug:=by omega);(have az:¬ (F.ug:Int)<(F.ug:Int):=by omega);clear hv;have ab:=l.spare d;(have ai:Hid ((zB F 8 r - Por.sumI (fun u=>F.ud u r*runs F.m u) 6)=s):=by unfold Hid;rw[l.out.loads_ug];exact HS);rw[ai.out] at ab;obtain ⟨Q,hQ⟩:∃ Q,n*s=Q:=⟨_,rfl⟩;(have ar:0<=Q/\Q<=100000000:=by rw[<-hQ];exact ⟨il (by omega) ab,by have:=jh (show n<=1000 by omega) aC.2 ab (by decide);omega⟩);have ax:=l.ku r d;generalize E:F.ku r=U at ax;(have p:Hid (idK F n (r+1)=zE (idK F n r) r (U+Q)):=by unfold Hid;rw[Ho,E,ai.out,<-hQ,jL n s]);obtain ⟨C,K,ak,k5,aH,k7,f2,a,c⟩:=t.spotIdle (r:=r) A;dsimp only[acF] at k5 k7;rw[show idK F n r r=U from by rw[<-E];exact ec (by omega)] at k7;have aj:=hid (c (U+Q) _ p);have j:=hid (a)
        have y:Hid (RfM base (lG wr ⟨C,K+r,lI⟩ (kW lD (U+Q))) b (acF F (F.ck+n) (usK F n (r+1) 0) (idK F n (r+1))) val o):=aj.congrA (fun v hv q Z=>by
         show usK F n (r+1) 0 v q=usK F n r F.ug v q
         have aT:v<F.ug:=hv
         unfold usK
         by_cases e:q<r\/(q=r /\ v<F.ug)
         ·rw[ed e,ed (by omega)]
         ·rw[ec e,ec (by omega)]) (fun q Z=>rfl)
        have N:Hid (Chg (zN b F val) w (lG wr ⟨C,K+r,lI⟩ (kW lD (U+Q)))):=I.trans (Chg.set j _ _ _);have O:Hid (Li V3.heap.size (lG wr ⟨C,K+r,lI⟩ (kW lD (U+Q))) (kX (lJ ⟨pg,pz,lI⟩) F.k f) (zu (zB F 8) F.k)):=pE J (Chg.set (P:=zN b F val) j _ _ _) ag;clear c a E I J p aj;(go_upto_region 18 with fail);go_region;go_wp2;go_roundg (F.k-(r+1));exact⟨r+1,rfl,by omega,by go_num,y.iP brf.drew,N.trans (Chg.jE _ brf.drew),O.iP brf.drew⟩;omega
     ·(obtain rfl:r=F.k:=by omega);have aB:¬ (F.k:Int)<(F.k:Int):=by omega
      have y:Hid (RfM base wr b (tickF F n) val o):=t.congrA (fun v hv q Z=>by
       show F.ks v q+F.ud v q*runs F.m v*n=usK F n F.k 0 v q
       have aa:q<F.k:=Z
       unfold usK;rw[ed (.inl aa)]) (fun q Z=>by
       show _=idK F n F.k q
       have aa:q<F.k:=Z
       unfold idK;rw[ed aa])
      go_wp2;go_ret;exact⟨by rw[g.out];rfl,tickF F n,y,I,.inl ⟨g,rfl⟩⟩
abbrev fcb (k ck:Int)(val:Tb->lN):Array lN:=#[kW lD k,val .size,val .kr,val .kt,val .kV,val .run,val .due,val .off,val .ks,val .ku,kW lD ck]
def Tb.fld:Tb->Nat
  |.size=>1
  |.kr=>2
  |.kt=>3
  |.kV=>4
  |.run=>5
  |.due=>6
  |.off=>7
  |.ks=>8
  |.ku=>9
  |_=>0
structure RT (base:Nat)(P:Nat->Prop)(w0 w:lM)(b:Nat)(k ck:Int)(dom:Tb->Prop)(val:Tb->lN)(n:Tb->Nat)(xs:Tb->List lN):Prop where
  box:Bx w b (fcb k ck val) 118
  low:base<=b
  pb:P b
  tb:Tbs base w dom val n xs
  own:∀t,dom t->∀g,(val t).ownBlock=lJ g->P g
  chg:Chg P w0 w
theorem Chg.of_grown {row:Option Nat}(h:w.grownBy w' row)(hp:∀g,row=lJ g->P g):Chg P w w':=⟨h.os,h.tape,h.output,h.size,fun k hk hn=>h.block k hk (fun e=>hn (hp k e.symm))⟩
abbrev PW (b:Nat)(F:Flt)(val:Tb->lN)(w:lM):Nat->Prop:=fun k=>zN b F val k\/w.heap.size<=k
section
variable{base b:Nat} {P:Nat->Prop} {w0 w w':lM} {k ck:Int} {dom:Tb->Prop} {val:Tb->lN} {n n':Tb->Nat} {xs xs':Tb->List lN} {F:Flt} {o:Old}
theorem RT.of (h:RfM base w b F val o):RT base (PW b F val w) w w b F.k F.ck (xF F) val (xG F) (zJ F val o):=⟨h.box,h.low,.inl (.inl rfl),h.tb,fun t ht g hg=>.inl (.inr ⟨t,ht,hg⟩),Chg.refl _ _⟩
theorem RT.le (h:RT base P w0 w b k ck dom val n xs):base<=w.heap.size:=ir (Nat.lt_of_le_of_lt h.low h.box.lt)
theorem RT.iP (h:RT base P w0 w b k ck dom val n xs)(hb:Below w.heap.size w w'):RT base P w0 w' b k ck dom val n xs:=⟨h.box.ji hb,h.low,h.pb,h.tb.iP hb,h.own,h.chg.trans (Chg.jE _ hb)⟩
theorem RT.congr (h:RT base P w0 w b k ck dom val n xs)(hn:∀t,dom t->n' t=n t)(hx:∀t,dom t->xs' t=xs t):RT base P w0 w b k ck dom val n' xs':=⟨h.box,h.low,h.pb,⟨fun t ht=>by rw[hn t ht,hx t ht];exact h.tb.own t ht,h.tb.kB⟩,h.own,h.chg⟩
theorem RT.bx (h:RT base P w0 w b k ck dom val n xs){t:Tb}(ht:dom t)(hg:w.grownBy w' (val t).ownBlock):Bx w' b (fcb k ck val) 118:=nF h.box hg (mC (h.tb.own t ht) h.box (Tb.nef t))
theorem RT.owns (h:RT base P w0 w b k ck dom val n xs) {t:Tb} {v':lN} (ha:v'.ownBlock=(val t).ownBlock\/v'.ownBlock=lJ w.heap.size) (hP:∀k,w0.heap.size<=k->P k) (ht:dom t):∀s,dom s->∀g,(zF val t v' s).ownBlock=lJ g->P g:=fun s hs g hg=>by
 by_cases e:s=t
 ·subst e
  rw[jR]at hg
  rcases ha with h1|h1
  ·exact h.own s hs g (h1 ▸ hg)
  ·rw[h1]at hg;exact hP g (by have:=h.chg.size;have:=iE hg;omega)
 ·rw[j7 _ _ e]at hg;exact h.own s hs g hg
theorem IV (k ck:Int)(val:Tb->lN)(t:Tb)(v:lN)(ht:0<t.fld):(fcb k ck val).setIfInBounds t.fld v=fcb k ck (zF val t v):=by
 cases t<;>first|rfl|exact absurd ht (jD 0)
theorem BV (k ck:Int)(val:Tb->lN)(t:Tb)(v:lN)(ht:t.fld=0):fcb k ck (zF val t v)=fcb k ck val:=by
 cases t<;>first|rfl|exact absurd ht (by decide)
theorem RT.app (h:RT base P w0 w b k ck dom val n xs)(hP:∀k,w0.heap.size<=k->P k){t:Tb}(ht:dom t)(hf:0<t.fld){v':lN}{ys:List lN}{m:Nat}(g1:w'.ownsRow base t.ty t.sz v' (n t+m) (xs t++ys))(hg:w.grownBy w' (val t).ownBlock)(ha:v'.ownBlock=(val t).ownBlock\/v'.ownBlock=lJ w.heap.size):RT base P w0 (lG w' ⟨b,t.fld,lI⟩ v') b k ck dom (zF val t v') (zF n t (n t+m)) (zF xs t (xs t++ys)):=by
 have a:=h.bx ht hg;refine⟨?_,h.low,h.pb,(h.tb.app ht g1 hg ha).bxset a _ _,h.owns ha hP ht,(h.chg.trans (Chg.of_grown hg (fun g e=>h.own t ht g e))).trans (Chg.set h.pb _ _ _)⟩;rw[<-IV k ck val t v' hf];exact j6 a _ _
theorem RT.new (h:RT base P w0 w b k ck dom val n xs)(hP:∀k,w0.heap.size<=k->P k)(hb:Below w.heap.size w w')(t:Tb)(hf:t.fld=0){v:lN}{m:Nat}{ys:List lN}(g1:w'.ownsRow w.heap.size t.ty t.sz v m ys):RT base P w0 w' b k ck (fun s=>s=t\/dom s) (zF val t v) (zF n t m) (zF xs t ys):=by
 refine⟨by rw[BV k ck val t v hf];exact h.box.ji hb,h.low,h.pb,h.tb.new hb h.le t g1,fun s hs g hg=>?_,h.chg.trans (Chg.jE _ hb)⟩;by_cases e:s=t
 ·subst e;rw[jR]at hg;have a:=(p6 g1 hg).1;exact hP g (by have:=h.chg.size;omega)
 ·rw[j7 _ _ e]at hg;exact h.own s (hs.resolve_left e) g hg
theorem RT.row (h:RT base P w0 w b k ck dom val n xs)(hP:∀k,w0.heap.size<=k->P k){t p:Tb}(ht:dom t)(hp:dom p)(hf:t.fld=0)(hfp:0<p.fld){v':lN}{ys:List lN}{m:Nat}(g1:w'.ownsRow base t.ty t.sz v' (n t+m) (xs t++ys))(hg:w.grownBy w' (val t).ownBlock)(ha:v'.ownBlock=(val t).ownBlock\/v'.ownBlock=lJ w.heap.size){g c:Nat}(hv:val p=kX (lJ ⟨g,0,lI⟩) (n p) c)(i:Nat):RT base P w0 (lG w' ⟨g,i,lI⟩ v') b k ck dom (zF val t v') (zF n t (n t+m)) (zF (zF xs t (xs t++ys)) p ((xs p).set i v')):=by
 have l:=h.bx ht hg;(have a:p≠t:=fun e=>by rw[e]at hfp;omega);have j:=h.tb.app ht g1 hg ha;have f:=j.set (t:=p) hp (g:=g) (c:=c) (by rw[j7 _ _ a,j7 _ _ a];exact hv) i v';rw[j7 _ _ a]at f;have d:=h.own p hp g (by rw[hv];rfl);refine⟨?_,h.low,h.pb,f,h.owns ha hP ht,(h.chg.trans (Chg.of_grown hg (fun g e=>h.own t ht g e))).trans (Chg.set d _ _ _)⟩;rw[BV k ck val t v' hf];exact nF l (mI w' g i v') (fun e=>mC (h.tb.own p hp) h.box (Tb.nef p) (by rw[hv];exact e))
theorem RT.fin (h:RT base P w0 w b k ck dom val n xs){G:Flt}{o':Old}(hk:k=G.k)(hck:ck=G.ck)(hd:∀t,xF G t->dom t)(hn:∀t,xF G t->n t=xG G t)(hx:∀t,xF G t->xs t=zJ G val o' t)(ho:OldOk G o'):RfM base w b G val o'/\∀g,zN b G val g->P g:=by
 refine⟨⟨by rw[<-show fcb k ck val=fcl G val by rw[hk,hck]];exact h.box,h.low,⟨fun t ht=>by rw[<-hn t ht,<-hx t ht];exact h.tb.own t (hd t ht),fun t s ht hs=>h.tb.kB t s (hd t ht) (hd s hs)⟩,ho⟩,fun g hg=>?_⟩;rcases hg with e|⟨t,a,c⟩
 ·rw[e];exact h.pb
 ·exact h.own t (hd t a) g c
end
variable{ao:Option Addr}{cap:Nat}{xs:List Int}
theorem Arr.cellsF (h:Arr w 1 ao n cap (zi xs)):CellsF w ao n (fun i=>kW lD (lm xs i)):=fun i hi=>by
  obtain⟨h0,h1,h2,h3,h4⟩:=h
  obtain⟨g,o,e,hg⟩:=h3 (by omega)
  refine⟨g,o,e,hg,?_⟩
  have hl:i<xs.length:=by rw[j9]at h0;omega
  have:=h4 g o e i _ (pq _ hl) 0 (kW lD (lm xs i)) rfl
  rw[ic,ia]at this
  exact this
theorem H8 (hl:xs.length=k)(h:∀r,r<k->0<=lm xs r/\lm xs r<=1000):xK k xs=lK:=by
 unfold xK uptsB;rw[ei hl,Bool.true_and,ie];intro x c;obtain⟨i,b,rfl⟩:=List.getElem_of_mem c;have a:=h i (by omega);rw[qv (en b)]at a;unfold uptB;exact ei a
def cntA (F:Flt)(i:Nat):Tb->Nat
  |.size=>F.mg+1
  |.rnr u=>if u<i then F.mg+1 else F.mg
  |t=>xG F t
def encA (F:Flt)(xs:List Int)(i:Nat)(val:Tb->lN)(o:Old):Tb->List lN
  |.size=>zJ F val o .size++[val (.szr F.mg)]
  |.rnr u=>if u<i then ni F.mg (F.m.on u)++[kW lD 0]else ni F.mg (F.m.on u)
  |.szr m=>if m=F.mg then ni F.k (zt xs)else ni F.k (F.ms m)
  |t=>zJ F val o t
def domA (F:Flt):Tb->Prop:=fun s=>s=.szr F.mg\/xF F s
theorem FI {B:Nat}(hb:Below B w w'){g:Nat}(hg:g<B):w'.frozen? ⟨g,i,lI⟩=w.frozen? ⟨g,i,lI⟩:=World.frozen?_of_block (hb.block g hg)
theorem Fm (F:Flt) (u k:Nat):∀t,domA F t->cntA F (u+1) t=zF (cntA F u) (.rnr u) (cntA F u (.rnr u)+1) t:=fun t _=>by
 by_cases e:t=.rnr u
 ·subst e;rw[jR];show(if u<u+1 then _ else _)=(if u<u then _ else _)+1;rw[ed (by omega),ec (by omega)]
 ·rw[j7 _ _ e]
  cases t with
  |rnr v=>
   have hne:v≠u:=fun x=>e (by rw[x])
   show(if v<u+1 then _ else _)=(if v<u then _ else _)
   by_cases h:v<u
   ·rw[ed h,ed (by omega)]
   ·rw[ec h,ec (by omega)]
  |_=>rfl
theorem FQ (F:Flt) (xs:List Int) (u:Nat) (vl:Tb->lN) (o:Old) (v':lN) (hu:u<F.ug):∀t,domA F t->encA F xs (u+1) (zF vl (.rnr u) v') o t=zF (zF (encA F xs u vl o) (.rnr u) (encA F xs u vl o (.rnr u)++[kW lD 0])) .run ((encA F xs u vl o .run).set u v') t:=fun t _=>by
 cases t with
 | run=>
  rw[jR]
  exact(mr _ _ _ _ _ (fun k hk=>by
   show zF vl (.rnr u) v' (.rnr k)=_
   by_cases e:k=u
   ·rw[ed e,e,jR]
   ·rw[ec e,j7 _ _ (fun x=>e (by injection x))])).symm
 | rnr v=>
  rw[j7 _ _ (by simp)]
  by_cases e:v=u
  ·rw[e,jR];show(if u<u+1 then _ else _)=(if u<u then _ else _) ++ _;rw[ed (by omega),ec (by omega)]
  ·rw[j7 _ _ (fun x=>e (by injection x))]
   show(if v<u+1 then _ else _)=(if v<u then _ else _)
   by_cases h:v<u
   ·rw[ed h,ed (by omega)]
   ·rw[ec h,ec (by omega)]
 |_=>rfl
section
variable{base b:Nat} {P:Nat->Prop} {w0 w w':lM} {F:Flt} {val:Tb->lN} {o:Old} {xs:List Int} {R:Int}
theorem RT.machine (h:RT base P w0 w b F.k F.ck (domA F) val (cntA F F.ug) (encA F xs F.ug val o))(hr:FWf R F)(h8:F.mg<8)(ho:OldOk F o):RfM base w b (addMF F xs) val o/\∀g,zN b (addMF F xs) val g->P g:=by
 have d:F.mt F.mg=lL:=by
  cases e:F.mt F.mg with
  |false=>rfl
  |true=>have:=hr.mt F.mg h8 e;omega
 have c:∀t,xF (addMF F xs) t->domA F t:=fun t ht=>by
  cases t with
  |szr m=>
   obtain⟨i,l⟩:=ht;have j:m<F.mg+1:=i;have a:yZ F.mt F.mg lK m=lK:=l;by_cases e:m=F.mg
   ·exact .inl (by rw[e])
   ·exact .inr ⟨by omega,by rw[nl _ _ e]at a;exact a⟩
  |_=>exact .inr ht
 refine h.fin rfl rfl c (fun t ht=>?_) (fun t ht=>?_) ⟨ho.dm,ho.now⟩
 ·cases t with
  |rnr u=>exact ed ht
  |_=>rfl
 ·cases t with
  |size=>show(List.range F.mg).map (fun m=>if F.mt m then val (.szr m)else kX lI 0 0)++[val (.szr F.mg)]=(List.range (F.mg+1)).map (fun m=>if yZ F.mt F.mg lK m then val (.szr m)else kX lI 0 0);rw[jy,ii];refine _root_.congr (congrArg _ (iJ (fun m hm=>?_))) (by show _=[if yZ F.mt F.mg lK F.mg then _ else _];rw[mX];rfl);rw[nl _ _ (by have:=iW.1 hm;omega)]
  |rnr u=>show(if u<F.ug then _ else _)=ni (F.mg+1) (F.m.on u);have f:u<F.ug:=ht;rw[ed f];show _=(List.range (F.mg+1)).map _;rw[jy,ii];show _=_++[Value.int lD (F.m.on u F.mg)];rw[hr.gone F.mg h8 d u (by have:=hr.ug;omega)]
  |szr m=>
   show(if m=F.mg then ni F.k (zt xs)else ni F.k (F.ms m))=ni F.k (yM F.ms F.mg (zt xs) m);by_cases e:m=F.mg
   ·rw[ed e,e,mh]
   ·rw[ec e,l3 _ _ e]
  |_=>rfl
end
theorem CT (hM:RfM base w b F val o)(hr:FWf R F)(hR:R<=999999999999990000)(ht:Tab w)(hl:yi base)(hx:Arr w 1 ao n cap (zi xs)):Calls prog 128 #[kY (lJ ⟨b,0,lI⟩),kX ao n cap] w fun e w'=>e=lF (lB #[kW lD (amN F xs),kW lD (amE F xs)])/\REnds base b F (addMF F xs) val (amE F xs) w w':=by
 have aw:=hx.len;rw[j9]at aw;subst aw;have af:=hid hx.cellsF;clear hx;have a3:=hr.k4;have B:=hid hM;have HR:=hid hr;have HO:=hid hr.rfo;have HT:=hid ht;have HL:=hid hl;clear hM hr ht hl;have aF:=hid (B.v HO.k1);have a6:=HO.ug;have a4:=HO.mg;go_enter func128,ntmps128;obtain⟨lb,c0⟩:=B.box.q1 rfl;by_cases y:xs.length=F.k
 ·(have g0:((xs.length:Int) != (F.k:Int))=lL:=by rw[y];simp);have g:=hid y;(have a7:xs.length<=4:=by omega);clear y;go_wp2;clear g0
  go_loopg[6] xs.length (fun gg ix wr=>∃i:Nat,gg=xs.length-i/\i<=xs.length/\ix=kW lD i/\w=wr/\Hid (∀r,r<i->0<=lm xs r/\lm xs r<=1000))
  case atStart=>exact⟨0,rfl,ep _,rfl,rfl,fun r hr=>(by omega)⟩
  case round=>
   obtain⟨i,a1,hi,rfl,aU,XR⟩:=hrel;subst aU;by_cases aO:i<xs.length
   ·(have aN:(i:Int)<(xs.length:Int):=by omega);obtain ⟨g1,o1,aK,a0,c1⟩:=af i aO;subst aK;dsimp only at c1;obtain ⟨X,hX⟩:∃ x,lm xs i=x:=⟨_,rfl⟩;have HQ:=hid hX;rw[hX] at c1;clear hX;by_cases h1:X<0
    ·(have d:Hid (amE F xs=3):=by unfold Hid amE;cases e:xK F.k xs with|false=>rfl|true=>(have c:=(oy e).2 i (by have:=g.out;omega);rw[HQ.out]at c;omega));have d1:=ei h1;have M:=hid (pD d (by decide));go_wp2;go_ret2;exact⟨by rw[d.out,M.out];rfl,by rw[d.out];exact REnds.kD B brf (by decide)⟩
    ·have d1:=ee h1;by_cases h2:1000<X
     ·(have d:Hid (amE F xs=3):=by unfold Hid amE;cases e:xK F.k xs with|false=>rfl|true=>(have c:=(oy e).2 i (by have:=g.out;omega);rw[HQ.out]at c;omega));have d2:=ei h2;have M:=hid (pD d (by decide));go_wp2;go_ret2;exact⟨by rw[d.out,M.out];rfl,by rw[d.out];exact REnds.kD B brf (by decide)⟩
     ·have d2:=ee h2
      have aG:Hid (∀r,r<i+1->0<=lm xs r/\lm xs r<=1000):=fun r hr=>by
       by_cases e:r=i
       ·rw[e,HQ.out];omega
       ·exact XR r (by omega)
      go_wp2;go_roundg (xs.length-(i+1));exact⟨i+1,rfl,by omega,by go_num,rfl,aG⟩;omega
   ·(obtain rfl:i=xs.length:=by omega);(have aN:¬ (xs.length:Int)<(xs.length:Int):=by omega);have U:=hid (H8 g (fun r hr=>XR r (by have:=g.out;omega)));clear XR;obtain ⟨so,sc,uo,uc,a5,aZ,ba,a9,hv⟩:=aF;have c1:=hv.sz;clear hv;by_cases h8:F.mg=8
    ·(have d:Hid (amE F xs=6):=by unfold Hid amE;rw[U.out,ed rfl,ec (by omega)]);(have P:((F.mg:Int) == 8)=lK:=by rw[h8];rfl);have M:=hid (pD d (by decide));go_wp2;go_ret2;exact⟨by rw[d.out,M.out];rfl,by rw[d.out];exact REnds.kD B brf (by decide)⟩
    ·(have N:F.mg<8:=by omega);(have d:Hid (amE F xs=0):=by unfold Hid amE;rw[U.out,ed rfl,ed N]);have M:=hid (Bs d);(have P:((F.mg:Int) == 8)=lL:=by rw[eg];omega);go_wp2_with fail;refine (sQ af (by omega)).mono ?_;rintro e1 w1 ⟨v1,rfl,ab,aa⟩;obtain ⟨K,L,ar⟩:=ab.kE;rw[JB] at ar;subst ar;clear c0 c1 lb;(have HP:Hid (∀ k,w.heap.size<=k->(PW b F val w) k):=fun k hk=>.inr hk);have T1:=hid ((RT.of B).new HP aa (.szr F.mg) rfl (show w1.ownsRow w.heap.size 3 1 (kX K xs.length L) xs.length (ni xs.length (lm xs)) from uU ab));clear ab aa;have T2:=hid (T1.iP (brf.alloc lR (lE #[(Value.slice K xs.length L)] 22)));(have ah:Hid ((w1.alloc (lE #[(Value.slice K xs.length L)] 22)).ownsRow base 22 1 (val .size) (zJ F val o .size).length (zJ F val o .size)):=by unfold Hid;have c:=T2.tb.own .size (.inr trivial);rw[show (zJ F val o .size).length=F.mg from mB _ _];exact c);have lb:=T1.box.lt;have g1:lH w1 ⟨b,1,lI⟩=lJ (val .size):=T1.box.cell 1 _ rfl;have aP:(zJ F val o .size).length=F.mg:=mB _ _;obtain ⟨n8,an⟩:∃ n,(zJ F val o .size).length+1=n:=⟨_,rfl⟩;have aQ:=T1.le;go_wp2_with (at_builtin;refine nH _ 22 29 (kX lI 0 0) 24 underlying29 Tryz.infoSli rfl (by decide) rfl _ _ rfl base _ (zJ F val o .size) ⟨w1.heap.size,0,lI⟩ 1 1 [(Value.slice K xs.length L)] rfl rfl ah n8 an rfl (by decide) (mG ((i1 w1 #[(Value.slice K xs.length L)] 22).cell 0 _ rfl)) (mJ rfl) (by omega) (by simp only[em];omega) ?_);intro v8 w8 s a D;obtain ⟨s8,c8,aT⟩:=JM s;(obtain rfl:n8=F.mg+1:=by omega);subst aT;have O:=T2.bx (t:=.size) (.inr trivial) a;have p8:=O.cell 1 _ rfl;have f8:=O.frozen 1;have m8:=O.lt;have T3:=hid (T2.app HP (t:=.size) (m:=1) (.inr trivial) (by decide) s a (by rw[em];exact D));clear s a D O g1 lb ah an aP T2;(go_upto_region 12 with fail);obtain ⟨V3,Z⟩:∃ V,V=lG w8 ⟨b,1,lI⟩ (kX s8 (F.mg+1) c8):=⟨_,rfl⟩
     have T4:Hid (RT base (PW b F val w) w V3 b F.k F.ck (domA F) (zF (zF val (.szr F.mg) (Value.slice K xs.length L)) .size (kX s8 (F.mg+1) c8)) (cntA F 0) (encA F xs 0 (zF (zF val (.szr F.mg) (Value.slice K xs.length L)) .size (kX s8 (F.mg+1) c8)) o)):=by
      unfold Hid;rw[Z];refine T3.congr (fun t ht=>?_) (fun t ht=>?_)
      ·cases t with
       |size=>rfl
       |rnr u=>show(if u<0 then F.mg+1 else F.mg)=_;rw[ec (iF u)];rfl
       |szr m=>show F.k=zF (zF (xG F) (.szr F.mg) xs.length) .size _ (.szr m);rw[j7 _ _ (by simp)];unfold zF;split;(exact g.symm);rfl
       |_=>rfl
      ·cases t with
       |size=>rw[jR,j7 _ _ (by simp)];show(List.range F.mg).map (fun m=>if F.mt m then zF (zF val (.szr F.mg) (Value.slice K xs.length L)) .size (kX s8 (F.mg+1) c8) (.szr m)else kX lI 0 0)++[zF (zF val (.szr F.mg) (Value.slice K xs.length L)) .size (kX s8 (F.mg+1) c8) (.szr F.mg)]=_;rw[j7 _ _ (by simp),jR];refine congrArg (· ++ _) (iJ (fun m hm=>?_));rw[j7 _ _ (by simp),j7 _ _ (fun e=>by injection e with e;have:=iW.1 hm;omega)]
       |rnr u=>rw[j7 _ _ (by simp),j7 _ _ (by simp)];exact(ec (iF u):(if u<0 then ni F.mg (F.m.on u)++[Value.int lD 0]else ni F.mg (F.m.on u))=ni F.mg (F.m.on u))
       |szr m=>
        rw[j7 _ _ (by simp)];by_cases e:m=F.mg
        ·rw[e,jR,g.out];exact ed rfl
        ·rw[j7 _ _ (fun x=>e (by injection x))];exact ec e
       |_=>rfl
     clear T3;rw[<-Z];clear Z p8 f8 m8 T1;generalize zF (zF val (.szr F.mg) (Value.slice K xs.length L)) .size (kX s8 (F.mg+1) c8)=f at T4;go_wp2
     go_loopg[8] F.ug (fun gg ix wr=>∃(u:Nat) (f:Tb->lN),gg=F.ug-u/\u<=F.ug/\ix=kW lD u/\Hid (RT base (PW b F val w) w wr b F.k F.ck (domA F) f (cntA F u) (encA F xs u f o)))
     case atStart=>exact⟨0,f,rfl,ep _,rfl,T4⟩
     case round=>
      clear T4;obtain⟨u,f,a2,hu,rfl,h⟩:=hrel;have lb:=h.box.lt;have W:lH wr ⟨b,5,lI⟩=lJ (f .run):=h.box.cell 5 _ rfl;by_cases j:u<F.ug
      ·(have aS:(u:Int)<(F.ug:Int):=by omega);obtain⟨C,aj,e5,aY,ad,k5,f5⟩:=lS (h.tb.own .run (.inr trivial)) (i:=u) (by show u<F.ug*1;omega);have Y:f .run=kX (lJ ⟨C,0,lI⟩) F.ug aj:=e5;rw[Y]at W;have J:=k5.trans (JF _ j);clear k5 e5;obtain⟨ro,rc,aq⟩:=JM (h.tb.own (.rnr u) (.inr j));(have H:f (.rnr u)=kX ro F.mg rc:=by rw[aq];exact congrArg (fun q=>Value.slice ro q rc) (ec (jD u)));clear aq;rw[H]at J;have l:=hid H;have T:=hid Y;clear H Y;obtain⟨z5,ai⟩:∃z:Nat,Hid (z=0):=⟨_,rfl⟩;rw[<-ai.out]at W J f5;have aQ:=h.le;have aX:F.mg<8:=N;(have ag:Hid ((Value.slice ro F.mg rc).ownBlock≠lJ C):=fun e=>h.tb.kB (.rnr u) .run (.inr j) (.inr trivial) (by simp) C (by rw[l.out];exact e) (by rw[T.out];rfl));(have aC:Hid ((Value.slice ro F.mg rc).ownBlock≠lJ b):=by have c:=mC (h.tb.own (.rnr u) (.inr j)) h.box (Tb.nef _);rw[l.out]at c;exact c);(go_upto_region 15 with fail);have aI:=qs ((brw wr).drew) W lb;have aJ:=qs ((brw wr).drew) J ad;obtain⟨i8,aM,aV,aR,aL⟩:=iM Tryz.infoInt;go_region_law (first|(refine Go.step_append_lies _ rfl _ _ 22 rfl base 3 i8 (kW lD 0) 1 8 eR aM aV aR aL rfl (by decide) (kX ro F.mg rc) F.mg (ni F.mg (F.m.on u)) rfl (show World.ownsRow ((wr.alloc (lE #[kW lD 0] 3))).drew base 3 1 (kX ro F.mg rc) F.mg (ni F.mg (F.m.on u))from by have c:=JO (h.tb.own (.rnr u) (.inr j)) (((brw wr).alloc lR (lE #[kW lD 0] 3))).drew;rw[l.out,show cntA F u (.rnr u)=F.mg from ec (jD u),show encA F xs u f o (.rnr u)=ni F.mg (F.m.on u)from ec (jD u)]at c;exact c) ⟨wr.heap.size,0,lI⟩ 1 1 [kW lD 0] rfl (by simp) (mG ((i1 wr #[kW lD 0] 3).drew.cell 0 _ rfl)) (mJ rfl) (by decide) (by unfold maxLen;omega) (by omega) (by show base<=((wr.alloc (lE #[kW lD 0] 3))).heap.size;rw[em];omega) _ rfl ?_;intro P A w8 s a D aW;have q8:=(a.cell_far ⟨b,5,lI⟩ (by show b<((wr.alloc (lE #[kW lD 0] 3))).heap.size;rw[em];omega) (fun e=>aC e.symm)).trans (qs ((((brw wr).alloc lR (lE #[kW lD 0] 3))).drew) W lb);have p8:=(a.cell_far ⟨C,z5+u,lI⟩ (by show C<((wr.alloc (lE #[kW lD 0] 3))).heap.size;rw[em];omega) (fun e=>ag e.symm)).trans (qs ((((brw wr).alloc lR (lE #[kW lD 0] 3))).drew) J ad);have f8:=(a.frozen_far ⟨C,z5+u,lI⟩ (by show C<((wr.alloc (lE #[kW lD 0] 3))).heap.size;rw[em];omega) (fun e=>ag e.symm)).trans ((FI (((brw wr).alloc lR (lE #[kW lD 0] 3))).drew ad).trans f5);have m8:=ez (show C<((wr.alloc (lE #[kW lD 0] 3))).heap.size by rw[em];omega) a.size;have n8:=ez (show b<((wr.alloc (lE #[kW lD 0] 3))).heap.size by rw[em];omega) a.size));(all_goals (have T8:=(h.iP (((brw wr).alloc lR (lE #[kW lD 0] 3))).drew).row HP (t:=.rnr u) (p:=.run) (m:=1) (v':=(kX (lJ ⟨P,0,lI⟩) (F.mg+1) A)) (ys:=[kW lD 0]) (.inr j) (.inr trivial) rfl (by decide) (by rw[show cntA F u (.rnr u)=F.mg from ec (jD u),show encA F xs u f o (.rnr u)=ni F.mg (F.m.on u)from ec (jD u)];exact s) (by rw[l.out];exact a) (by rw[l.out];rcases D with c|c;(exact .inl c.symm);(exact .inr (congrArg lJ c))) T u));(all_goals (have T9:Hid (RT base (PW b F val w) w (lG w8 ⟨C,z5+u,lI⟩ (kX (lJ ⟨P,0,lI⟩) (F.mg+1) A)) b F.k F.ck (domA F) (zF f (.rnr u) (kX (lJ ⟨P,0,lI⟩) (F.mg+1) A)) (cntA F (u+1)) (encA F xs (u+1) (zF f (.rnr u) (kX (lJ ⟨P,0,lI⟩) (F.mg+1) A)) o)):=by unfold Hid;rw[show z5+u=u from by rw[ai.out,eC]];exact T8.congr (n':=cntA F (u+1)) (xs':=encA F xs (u+1) (zF f (.rnr u) (kX (lJ ⟨P,0,lI⟩) (F.mg+1) A)) o) (Fm F u xs.length) (FQ F xs u f o (kX (lJ ⟨P,0,lI⟩) (F.mg+1) A) j)));(all_goals clear T8 aI aJ W J f5 lb h l T s a D);(all_goals (try go_wp2));all_goals (go_roundg (F.ug-(u+1));(case measure=>omega);(case rel=>exact⟨u+1,_,rfl,by omega,by go_num,by first|exact T9|exact T9.iP brf.drew⟩))
      ·(obtain rfl:u=F.ug:=by omega);(have aS:¬ (F.ug:Int)<(F.ug:Int):=by omega);obtain⟨e5,aH,al⟩:=JM (h.tb.own .run (.inr trivial));have Q:f .run=kX e5 F.ug aH:=al;rw[Q]at W;obtain⟨am,ap⟩:=h.machine HR N B.old;have aA:=hid am;have aD:=hid ap;have ae:=hid h.chg;clear al Q am ap h;have aE:Hid (Tab wr):=HT.chg HL ae (fun k hk=>by rcases hk with c|c;(exact B.kJ k c);(have:=B.le;omega)) B.le;have ay:Hid (Chg (zN b F val) w wr):=Chg.shed brf ae (fun k hk hlt=>by rcases hk with c|c;(exact c);omega);go_wp2_with fail;clear W;refine(nP aA (HR.addM N g (fun r hr=>(oy U).2 r hr)) hR aE).mono ?_;rintro e9 w9 ⟨rfl,G,o9,E,ac,ak⟩;(have aB:Hid (G.mg=F.mg+1):=by obtain⟨z9,e9,_⟩:=ac;unfold Hid;rw[e9];rfl);have az:=hid (REnds.of (F:=F) (er:=0) ay E ac ak aD rfl);have a8:=E.box.lt;have c9:lH w9 ⟨b,1,lI⟩=lJ (f .size):=E.box.cell 1 _ rfl;obtain⟨s9,x9,S⟩:=JM (E.tb.own .size trivial);(have I:f .size=kX s9 (F.mg+1) x9:=by rw[S];exact congrArg (fun q=>Value.slice s9 q x9) aB);rw[I]at c9;clear E ac ak S I;go_wp2;go_ret2;exact⟨by rw[d.out,M.out];go_num,by rw[d.out];exact az⟩
 ·(have d:Hid (amE F xs=3):=by unfold Hid amE;cases e:xK F.k xs with|false=>rfl|true=>exact absurd (oy e).1 y);(have g0:((xs.length:Int) != (F.k:Int))=lK:=by rw[bne_iff_ne];omega);have g:=hid y;clear y;have M:Hid (amN F xs=0):=pD d (by decide);go_wp2;go_ret2;exact⟨by rw[d.out,M.out];rfl,by rw[d.out];exact REnds.kD B brf (by decide)⟩
end Go.Proofs.YtigokanoflkinaaGreatDoor
