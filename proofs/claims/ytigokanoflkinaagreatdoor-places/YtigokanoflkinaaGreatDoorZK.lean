/- KKs, MBest, RRsA, KFilA, joined. -/
import Derived.Test.YtigokanoflkinaaGreatDoorZH
set_option maxHeartbeats 20000000
set_option maxRecDepth 20000
namespace Go.Proofs.YtigokanoflkinaaGreatDoor
set_option linter.unusedSimpArgs false
set_option linter.unusedVariables false
open Go.RowKit Por Go.Proofs.Tryz
open Value renaming int->kW,slice->kX,string->lC,pointer->kY,bool->kZ,agg->lA,tuple->lB
open IntKind renaming i64->lD
open World renaming cell?->lH,setCell->lG
open Option renaming none->lI,some->lJ
open Bool renaming true->lK,false->lL
open Go renaming World->lM,Value->lN
open Obj renaming cells->lE
open Ending renaming returned->lF
def sumI (xs:List Int):Nat->Int
  |0=>0
  |k+1=>sumI xs k+lm xs k
theorem Ia:txt 0=[48]:=by
 have e:txt ((0:Int):Rat)=Go.Lib.itoa 0:=uA 0;(have a:Go.Lib.decDigits 0=[48]:=by unfold Go.Lib.decDigits;rfl);(have b:Go.Lib.itoa 0=[48]:=by unfold Go.Lib.itoa;rw[ec (by decide)];exact a);exact e.trans b
variable{w:lM}{g n k i:Nat}{lv:Nat->Rat}
theorem ShB.cells {ts:Nat->Rat}{st:Nat->Int}(h:ShB w g n k ts lv st)(hi:i<k):lH w ⟨g,i*3,lI⟩=lJ (lC ⟨(txt (ts i)).toArray⟩)/\lH w ⟨g,i*3+1,lI⟩=lJ (lC ⟨(txt (lv i)).toArray⟩)/\lH w ⟨g,i*3+2,lI⟩=lJ (kW lD (st i)):=by
 obtain⟨b,a,j,f⟩:=h;obtain⟨c,d,e⟩:=f i hi;exact⟨(hH w g _ _ _ _ a).trans c,(hH w g _ _ _ _ a).trans d,(hH w g _ _ _ _ a).trans e⟩
variable{w':lM}{pool:List Int}{us:List Usr}
theorem Solved.later {w1:lM}{d:FD}(h:Solved w1 w' pool us g d)(hb:Below w.heap.size w w1):Solved w w' pool us g d:=⟨h.of,eh hb.size h.low,h.sh,hb.trans (h.bel.mono hb.size)⟩
def tb (q:Rat):ByteArray:=⟨(txt q).toArray⟩
def TO (base:Nat)(w:lM)(v:lN)(l:List Rat):Prop:=w.ownsRow base 9 1 v l.length (l.map (fun q=>Value.string ⟨(txt q).toArray⟩))
theorem TO.nil (base:Nat)(w:lM):TO base w (kX lI 0 0) []:=iy _ _ _ _
variable{base:Nat}{v:lN}{l:List Rat}
theorem TO.iP (h:TO base w v l)(hb:Below w.heap.size w w'):TO base w' v l:=by
 obtain⟨d,h⟩:=h;refine⟨d,?_⟩;rcases h with h|⟨g,a,b,e,f,c,i⟩
 ·exact .inl h
 ·exact .inr ⟨g,a,b,e,f,(hb.block g (ek.1 c).1).trans c,i⟩
theorem TO.alloc (h:TO base w v l)(o:Obj):TO base (w.alloc o) v l:=h.iP (brf.alloc lR o)
theorem TO.arr (h:TO base w v l):∃ao cap,v=kX ao l.length cap/\Arr w 1 ao l.length cap (strs (l.map tb)):=by
 obtain⟨r,h⟩:=h;rcases h with⟨rfl,h⟩|⟨g,cap,a,rfl,t,d,n,p,s,q⟩
 ·obtain rfl:l=[]:=iq.1 h;exact⟨lI,0,rfl,Arr.nil _ _⟩
 ·refine⟨_,_,rfl,⟨by simp[strs],n,p,fun _=>⟨g,0,rfl,(ek.1 d).1⟩,?_⟩⟩;intro b o e i v c j u k
  cases e
  (have f:i<l.length:=by simpa[strs]using(eA.1 c).1);unfold strs at c;rw[List.map_map,eD,en f]at c
  cases c
  match j with
  |0=>rw[eC,hH w g _ _ _ _ d];(have m:a.toList[i*1+0]?=(a.toList.take (l.length*1))[i*1+0]?:=by rw[eH,ed (by omega)]);rw[<-eI,m,q,eD,ic,ia,en f];exact k
  |j+1=>simp[Value.cells]at k
theorem Dg.amt {n:Int}(h:yG n=lK):Dg (n:Rat) 5:=by
 have a:(n:Rat).num=n:=jq n;have b:(n:Rat).den=1:=jG n;have:=JH h;unfold Dg;rw[a,b];exact⟨by omega,by omega⟩
theorem EL:(10000^6*6000000)^4*1000<10^128:=by decide
variable{m:Nat}
theorem EV {G:Nat}(hG:0<G)(h:G<=10000^6)(hm:m<=4):(G*6000000)^m<=(10000^6*6000000)^4:=by
 have a:(G*6000000)^m<=(G*6000000)^4:=ip (by omega) hm;have b:(G*6000000)^4<=(10000^6*6000000)^4:=Nat.pow_le_pow_left (hI _ h) 4;exact eh a b
theorem I7 (hg:Good us pool.length)(hpa:∀i,yG (lm pool i)=lK)(hn:us.length<=6)(hk:pool.length<=4)(hi:i<us.length):Dg ((yB pool us).ts i) 128:=by
 obtain⟨G,a,d,e,_⟩:=Al hg hn;have j:=(rx hg hpa).1;obtain⟨Q,f,g,h⟩:=Iw (n7 hg hpa) (nw hg hpa) j (fun i hi=>⟨_,rfl⟩) (fun i r hi hr=>⟨_,rfl⟩) (fun r hr=>⟨_,rfl⟩) G 6000000 a (by decide) e (fun r hr=>BE hg hpa hn hr);have n:=hg.cap (i:=i) hi;obtain⟨o,p⟩:=uD (M:=1000) f (h i hi) (j.low i hi) (Rat.le_trans (j.cap i hi) ((nG (b:=1000)).2 n.2));have l:=EL;have c:=eh g (EV (m:=(xI pool us).k) a d hk);generalize(10000^6*6000000)^4=B at c l;have q:Q*1000<=B*1000:=hI _ c;have s:B<=B*1000:=Nat.le_mul_of_pos_right B (by decide);exact⟨by omega,by omega⟩
def BestOk (pool dem:List Int)(k:Nat)(b:Int):Prop:=
  (∀r,r<k->lm dem r≠0->0<lm pool r)/\((b = -1/\∀r,r<k->lm dem r=0)\/∃m:Nat,b=m/\m<k/\0<lm dem m/\0<lm pool m/\∀r,r<k->lm dem r*lm pool m<=lm dem m*lm pool r)
theorem BestOk.zero (pool dem:List Int):BestOk pool dem 0 (-1):=⟨fun r h=>by omega,.inl ⟨rfl,fun r h=>by omega⟩⟩
variable{dem:List Int}{b:Int}
theorem BestOk.skip (h:BestOk pool dem k b)(hd:lm dem k=0)(hp:0<=lm pool k):BestOk pool dem (k+1) b:=by
 obtain⟨g,i⟩:=h
 have c:∀ {Q:Nat->Prop},(∀r,r<k->Q r)->Q k->∀r,r<k+1->Q r:=fun{Q} a b r hr=>by
  by_cases e:r=k
  ·subst e;exact b
  ·exact a r (by omega)
 refine⟨c g (fun f=>absurd hd f),?_⟩;rcases i with⟨e,d⟩|⟨m,e,l,d,j,f⟩
 ·exact .inl ⟨e,c d hd⟩
 ·refine .inr ⟨m,e,by omega,d,j,c f ?_⟩;rw[hd,jC];exact il (by omega) hp
theorem BestOk.first (h:BestOk pool dem k (-1))(hpn:∀r,0<=lm pool r)(hd:0<lm dem k)(hp:0<lm pool k):BestOk pool dem (k+1) k:=by
 obtain⟨d,f⟩:=h
 have c:∀ {Q:Nat->Prop},(∀r,r<k->Q r)->Q k->∀r,r<k+1->Q r:=fun{Q} a b r hr=>by
  by_cases e:r=k
  ·subst e;exact b
  ·exact a r (by omega)
 rcases f with⟨e,g⟩|⟨m,e,_⟩
 ·refine⟨c d (fun _=>hp),.inr ⟨k,rfl,by omega,hd,hp,c (fun r hr=>?_) (ik _)⟩⟩;have i:=g r hr;rw[i,jC];exact il (by omega) (hpn r)
 ·omega
theorem GP {a p q c s:Int}(hp:0<p)(hq:0<q)(hs:0<=s)(hc:0<=c)(h1:a*p<=b*s)(h2:b*q<c*p)(ha:0<=a):a*q<=c*s:=by
 (have d:(a*q)*p<=(c*s)*p:=by have e:(a*p)*q<=(b*s)*q:=iH h1 (by omega);have f:(b*q)*s<=(c*p)*s:=iH (by omega) hs;(have g:(a*q)*p=(a*p)*q:=by rw[Int.mul_assoc,jL q p,<-Int.mul_assoc]);(have h:(b*s)*q=(b*q)*s:=by rw[Int.mul_assoc,jL s q,<-Int.mul_assoc]);(have i:(c*p)*s=(c*s)*p:=by rw[Int.mul_assoc,jL p s,<-Int.mul_assoc]);omega);exact Int.le_of_mul_le_mul_right d hp
theorem BestOk.ji (h:BestOk pool dem k m)(hp:0<lm pool k)(hle:lm dem k*lm pool m<=lm dem m*lm pool k):BestOk pool dem (k+1) m:=by
 obtain⟨f,g⟩:=h
 have c:∀ {Q:Nat->Prop},(∀r,r<k->Q r)->Q k->∀r,r<k+1->Q r:=fun{Q} a b r hr=>by
  by_cases e:r=k
  ·subst e;exact b
  ·exact a r (by omega)
 rcases g with⟨e,d⟩|⟨l,e,n,d,i,j⟩
 ·omega
 ·(obtain rfl:m=l:=by omega);exact⟨c f (fun _=>hp),.inr ⟨m,rfl,by omega,d,i,c j hle⟩⟩
theorem BestOk.turn (h:BestOk pool dem k m)(hpn:∀r,0<=lm pool r)(hdn:∀r,0<=lm dem r)(hp:0<lm pool k)(hlt:lm dem m*lm pool k<lm dem k*lm pool m):BestOk pool dem (k+1) k:=by
 obtain⟨g,i⟩:=h
 have c:∀ {Q:Nat->Prop},(∀r,r<k->Q r)->Q k->∀r,r<k+1->Q r:=fun{Q} a b r hr=>by
  by_cases e:r=k
  ·subst e;exact b
  ·exact a r (by omega)
 rcases i with⟨e,j⟩|⟨o,e,p,j,l,n⟩
 ·omega
 ·(obtain rfl:m=o:=by omega);(have d:0<lm dem k:=by apply eO;intro q;(have f:lm dem k=0:=by have:=hdn k;omega);rw[f,jC]at hlt;have:=il (hdn m) (hpn k);omega);exact⟨c g (fun _=>hp),.inr ⟨k,rfl,by omega,d,hp,c (fun r hr=>GP l hp (hpn r) (hdn k) (n r hr) hlt (hdn r)) (ik _)⟩⟩
def TopIs (pool:List Int)(u:Usr)(t:Int):Prop:=
  (t = -1/\((∃r,r<pool.length/\lm u.dem r≠0/\lm pool r=0)\/∀r,r<pool.length->lm u.dem r=0))\/
  (∃m:Nat,t=m/\m<pool.length/\0<lm u.dem m/\0<lm pool m/\(∀r,r<pool.length->lm u.dem r≠0->0<lm pool r)/\∀r,r<pool.length->lm u.dem r*lm pool m<=lm u.dem m*lm pool r)
theorem nX {a M N:Int} (ha:0<=a/\a<=M) (hb:0<=b/\b<=N):0<=a*b/\a*b<=M*N:=
  ⟨il ha.1 hb.1,jh ha.2 hb.2 hb.1 (by omega)⟩
theorem tT {po:Option Addr}{pc:Nat}{da:Option Addr}{dn dc:Nat}{u:Usr}(hp:Arr w 1 po pool.length pc (zi pool))(hd:Arr w 1 da dn dc (zi u.dem))(hl:u.dem.length=pool.length)(hpa:∀i,yG (lm pool i)=lK)(hda:∀i,yG (lm u.dem i)=lK)(hk4:pool.length<=4):Calls prog 36 #[kX po pool.length pc,lA #[kX da dn dc,kW lD u.wt,kW lD u.cap]] w fun e w'=>(∃t,e=lF (kW lD t)/\TopIs pool u t)/\Below w.heap.size w w':=by
 have H:=hd.len;rw[j9,hl]at H;subst H;have O:=hid hp;have M:=hid hd;have f:=hid hpa;have o:=hid hda;clear hp hd hpa hda;have a:=hid (brw w);have n:=hid (i1 w #[kX da pool.length dc,kW lD u.wt,kW lD u.cap] 56);have l:Hid (Below w.heap.size w (w.alloc (lE #[kX da pool.length dc,kW lD u.wt,kW lD u.cap] 56))):=a.out.alloc a.out.size (lE #[kX da pool.length dc,kW lD u.wt,kW lD u.cap] 56);have ak:w.heap.size<=w.heap.size:=a.out.size;clear a;go_enter func36,ntmps36;go_wp2
 go_loopg[5,6] pool.length (fun gg s10 ix wr=>∃(k:Nat) (b:Int),gg=pool.length-k/\k<=pool.length/\ix=kW lD k/\s10=kW lD b/\Hid (BestOk pool u.dem k b)/\Hid (Bx wr w.heap.size #[kX da pool.length dc,kW lD u.wt,kW lD u.cap] 56)/\Hid (Below w.heap.size w wr))
 case atStart=>exact⟨0,-1,rfl,ep _,rfl,rfl,BestOk.zero _ _,n.out,l.out⟩
 case round=>
  clear n l;obtain⟨k,b,ad,hk,rfl,rfl,G,j,hB⟩:=hrel;obtain⟨al,u0⟩:=j.out.q1 rfl;by_cases C:k<pool.length
  ·obtain⟨db,aa,rfl,ac⟩:=(M.out.iP hB.out).head (by omega);have cd:=(M.out.iP hB.out).int rfl C;obtain⟨pb,am,rfl,ah⟩:=(O.out.iP hB.out).head (by omega);have cp:=(O.out.iP hB.out).int rfl C;(have ae:(k:Int)<(pool.length:Int):=by omega);have J:=JH (o.out k);have F:=JH (f.out k);generalize hx:lm u.dem k=x at cd J;have g:=hid hx;clear hx;generalize hy:lm pool k=y at cp F;have c:=hid hy;clear hy;by_cases E:x=0
   ·subst E;go_wp2;go_roundg (pool.length-(k+1));(case measure=>omega);case rel=>exact⟨k+1,_,rfl,by omega,by go_num,rfl,G.out.skip g.out (by rw[c.out];exact F.1),j.out,hB.out⟩
   ·have ai:(x == 0)=lL:=eg.2 E;by_cases K:y=0
    ·subst K;go_wp2;go_ret;exact⟨⟨-1,rfl,.inl ⟨rfl,.inl ⟨k,C,by rw[g.out];exact E,c.out⟩⟩⟩,hB.out⟩
    ·have aj:(y == 0)=lL:=eg.2 K;obtain⟨h,s⟩:=G.out;rcases s with⟨rfl,A⟩|⟨m,rfl,Z,B,D,d⟩
     ·clear A h;(go_upto_region 8 with fail);go_quiet (fail);go_wp2;go_roundg (pool.length-(k+1));(case measure=>omega);case rel=>exact⟨k+1,_,rfl,by omega,by go_num,rfl,G.out.first (fun r=>(JH (f.out r)).1) (by rw[g.out];omega) (by rw[c.out];omega),j.out.iP (eY (eB _ wr) _) j.out.lt,eY hB.out _⟩
     ·have S:=(M.out.iP hB.out).int rfl (i:=m) (by omega);have T:=(O.out.iP hB.out).int rfl (i:=m) (by omega);(have ag:(m:Int)<(pool.length:Int):=by omega);have af:decide ((m:Int)<0)=lL:=ee (by omega);have L:=JH (o.out m);have I:=JH (f.out m);generalize hz:lm u.dem m=z at S B L;have R:=hid hz;clear hz;generalize hv:lm pool m=v at T D I;have Q:=hid hv;clear hv;clear d h;have r1:=nX J I;have r2:=nX L F;(have p:Hid (lm u.dem k*lm pool m=x*v):=by rw[g.out,Q.out];rfl);(have q:Hid (lm u.dem m*lm pool k=z*y):=by rw[R.out,c.out];rfl);obtain⟨W,U⟩:∃P:Int,x*v=P:=⟨_,rfl⟩;obtain⟨X,V⟩:∃P:Int,z*y=P:=⟨_,rfl⟩;rw[U]at r1 p;rw[V]at r2 q;obtain⟨an,ao⟩:=r1;obtain⟨ap,aq⟩:=r2;by_cases Y:X<W
      ·have N:Hid (BestOk pool u.dem (k+1) k):=G.out.turn (fun r=>(JH (f.out r)).1) (fun r=>(JH (o.out r)).1) (by rw[c.out];omega) (by rw[p.out,q.out];exact Y);(go_upto_region 8 with fail);go_quiet (fail);go_wp2;go_roundg (pool.length-(k+1));(case measure=>omega);case rel=>exact⟨k+1,_,rfl,by omega,by go_num,rfl,N.out,j.out.iP (eY (eB _ wr) _) j.out.lt,eY hB.out _⟩
      ·have N:Hid (BestOk pool u.dem (k+1) m):=G.out.ji (by rw[c.out];omega) (by rw[p.out,q.out];omega);have ab:decide (X<W)=lL:=ee Y;(go_upto_region 8 with fail);go_quiet (fail);go_wp2;go_roundg (pool.length-(k+1));(case measure=>omega);case rel=>exact⟨k+1,_,rfl,by omega,by go_num,rfl,N.out,j.out.iP (eY (eB _ wr) _) j.out.lt,eY hB.out _⟩
  ·obtain rfl:k=pool.length:=by omega
   have HT:Hid (TopIs pool u b):=by
    obtain⟨h,s⟩:=G.out;rcases s with⟨rfl,A⟩|⟨m,rfl,Z,B,D,d⟩
    ·exact .inl ⟨rfl,.inr A⟩
    ·exact .inr ⟨m,rfl,Z,B,D,h,d⟩
   go_wp2;go_ret;exact⟨⟨b,rfl,HT.out⟩,hB.out⟩
variable{ao:Option Addr}{nc B C:Nat}
theorem qL {bo co eo:Option Addr}{na ca nb cb cc nd cd:Nat}{A D:Nat}(h1:Row w ao na ca (zA A))(h2:Row w bo nb cb (zA B))(h3:Row w co nc cc (zA C))(h4:Row w eo nd cd (zA D))(b1:na<=10000)(b2:nb<=10000)(b3:nc<=10000)(b4:nd<=10000):Calls prog 86 #[kX ao na ca,kX bo nb cb,kX co nc cc,kX eo nd cd] w fun e w'=>e=lF (kW lD (zQ (A*D:Nat) (C*B:Nat)))/\Below w.heap.size w w':=by
 have v:=h1.len;have x:=h2.len;have y:=h3.len;have z:=h4.len;have d:=brw w;go_enter func86,ntmps86;go_wp2_with fail;refine(JK h1 h4 (by omega) (by omega)).mono ?_;rintro ex V ⟨vx,rfl,⟨Z,Y,X,rfl,r,_⟩,c⟩;have h:=h2.iP c;have i:=h3.iP c;have f:=et d c;have lx:=r.len;have S:=JE A D;go_wp2_with fail;refine(JK i h (by omega) (by omega)).mono ?_;rintro ey W ⟨vy,rfl,⟨yo,yn,yc,rfl,s,_⟩,b⟩;have j:=r.iP b;have g:=et f b;have ly:=s.len;have T:=JE C B;go_wp2_with fail;refine(nt j s (by omega) (by omega)).mono ?_;rintro e9 U ⟨rfl,a⟩;have t:=et g a;clear a;go_wp2;go_ret;exact⟨rfl,t⟩
structure RD where
  w0:lM
  po:Option Addr
  pc:Nat
  kq:List Int
  ao:Option Addr
  cap:Nat
  us:List Usr
  pb:Nat
  B1:Nat
  B2:Nat
def RD.a (d:RD):NProb:=⟨d.us.length,d.kq.length,fun r=>(lm d.kq r).toNat,fun i r=>(lm (ug d.us i).dem r).toNat,fun i=>(ug d.us i).wt.toNat,fun i=>(ug d.us i).cap.toNat⟩
abbrev RD.cells (d:RD)(vt vg vh vs:lN)(qo:Option Addr)(qn qc:Nat):Array lN:=#[kX d.po d.kq.length d.pc,kX d.ao d.us.length d.cap,vt,vg,vh,vs,kX qo qn qc]
structure RV where
  tl:List Int
  gl:List Nat
  hl:List Nat
  sl:List Bool
  q:Nat
def RV.R (s:RV):RS:=⟨bn s.sl,nn s.hl,s.q⟩
structure RisM (w:lM)(d:RD)(s:RV):Prop where
  box:∃vt vg vh vs qo qn qc,Bx w d.pb (d.cells vt vg vh vs qo qn qc) 75/\Own d.B1 w vt s.tl/\NLs d.B2 w vg s.gl/\NLs d.B1 w vh s.hl/\BLs d.B1 w vs s.sl/\Row w qo qn qc (zA s.q)/\∀b n c,vh=kX (lJ ⟨b,0,lI⟩) n c->b<d.B2
  p0:Arr d.w0 1 d.po d.kq.length d.pc (zi d.kq)
  u0:Users d.w0 d.ao d.us.length d.cap d.us
  bel:Below d.w0.heap.size d.w0 w
  low:d.w0.heap.size<=d.pb
  ord:d.pb<d.B1/\d.B1<=d.B2
variable{d:RD}{s:RV}
theorem RisM.kq (h:RisM w d s):Arr w 1 d.po d.kq.length d.pc (zi d.kq):=h.p0.iP h.bel
theorem RisM.kr (h:RisM w d s):Users w d.ao d.us.length d.cap d.us:=h.u0.iP h.bel
theorem RisM.iP (h:RisM w d s)(hb:Below w.heap.size w w'):RisM w' d s:=by
 obtain⟨⟨v,r,t,u,q,p,o,e,f,g,i,j,k,l⟩,m,n,a,b,c⟩:=h;exact⟨⟨v,r,t,u,q,p,o,e.iP hb e.lt,f.iP hb,g.iP hb,i.iP hb,j.iP hb,k.iP hb,l⟩,m,n,a.trans (hb.mono a.size),b,c⟩
structure RD.Ok (d:RD):Prop where
  kx:Good d.us d.kq.length
  kq:∀i,yG (lm d.kq i)=lK
  n6:d.us.length<=6
  k1:1<=d.kq.length
  k4:d.kq.length<=4
structure RV.Ok (s:RV)(d:RD):Prop where
  tl:s.tl.length=d.us.length
  gl:s.gl.length=d.us.length
  hl:s.hl.length=d.us.length
  sl:s.sl.length=d.us.length
  q:(zA s.q).length<=300
  hs:∀i,i<d.us.length->(zA (nn s.hl i)).length<=300
  gs:∀i,i<d.us.length->(zA (nn s.gl i)).length<=8
theorem RD.P_eq (h:d.Ok)(r:Nat):lm d.kq r=((d.a.P r:Nat):Int):=by
 have:=JH (h.kq r);show lm d.kq r=(((lm d.kq r).toNat:Nat):Int);omega
theorem RD.D_eq (h:d.Ok)(hi:i<d.us.length)(r:Nat):lm (ug d.us i).dem r=((d.a.D i r:Nat):Int):=by
 have:=JH (h.kx.dem hi r);show lm (ug d.us i).dem r=(((lm (ug d.us i).dem r).toNat:Nat):Int);omega
theorem RD.P_le (h:d.Ok)(r:Nat):d.a.P r<=10000:=by have:=JH (h.kq r);have:=d.P_eq h r;omega
theorem RD.D_le (h:d.Ok)(hi:i<d.us.length)(r:Nat):d.a.D i r<=10000:=by have:=JH (h.kx.dem hi r);have:=d.D_eq h hi r;omega
theorem EO (a:NProb)(R:RS)(r:Nat):yE a R r 0=a.P r*R.q:=rfl
variable{r:Nat}
theorem wH {a:NProb}{R:RS}(h:R.kv i=lK):yE a R r (i+1)=yE a R r i:=by simp[yE,h]
theorem xv {a:NProb}{R:RS}(h:R.kv i=lL):yE a R r (i+1)=yE a R r i-a.D i r*R.hv i:=by simp[yE,h]
theorem F7 (a:NProb)(R:RS)(r:Nat):∀i,yE a R r i<=a.P r*R.q:=by
 intro i
 induction i with
 |zero=>exact lR
 |succ i ih=>
  cases h:R.kv i with
  |true=>rw[wH h];exact ih
  |false=>rw[xv h];omega
variable{N:Nat}
theorem lQ (h:N<=10000):(zA N).length<=2:=by
 have:=jAH (a:=N) (b:=10000) h;(have e:(zA 10000).length=2:=by decide);omega
theorem sZ (h:RisM w d s)(ho:d.Ok)(hs:s.Ok d)(hr:r<d.kq.length)(hle:∀i,i<d.us.length->bn s.sl i=lL->d.a.D i r*nn s.hl i<=yE d.a s.R r i):Calls prog 85 #[kY (lJ ⟨d.pb,0,lI⟩),kW lD r] w fun e w'=>∃xo xn xc,e=lF (kX xo xn xc)/\Row w' xo xn xc (zA (lft d.a s.R r))/\xn<=302/\Below w.heap.size w w':=by
 obtain⟨N,hN⟩:∃N:Nat,lm d.kq r=(N:Int)/\N=d.a.P r:=⟨_,d.P_eq ho r,rfl⟩;(have am:N<=10000:=by rw[hN.2];exact d.P_le ho r);have a7:=ho.k4;have a8:=ho.n6;have HN:=hid hN;clear hN;have H:=hid h;have HO:=hid ho;have HS:=hid hs;have aC:=hid hle;clear h ho hs hle;have v:=hid (brw w);go_enter func85,ntmps85;(have ba:(r:Int)<(d.kq.length:Int):=by omega);obtain⟨vt,vg,vh,vs,qo,qn,qc,Q,aU,aR,aS,aT,ad,ax⟩:=(H.iP v).box;have bl:=Q.lt;obtain⟨o,n,ay,aa⟩:=H.kq.head (by omega);have cp:=H.kq.int ay hr;have c0:lH w ⟨d.pb,0,lI⟩=lJ (kX d.po d.kq.length d.pc):=Q.cell 0 _ rfl;have c6:lH w ⟨d.pb,6,lI⟩=lJ (kX qo qn qc):=Q.cell 6 _ rfl;rw[ay]at c0;rw[HN.out.1]at cp;have HQ:=hid ad;have lq:=ad.len;have bc:=HS.q;clear Q aU aR aS aT ad ax;(go_upto_region 1 with fail);(have L:Hid (∀U,Bl w U->lH U ⟨d.pb,0,lI⟩=lJ (kX (lJ ⟨o,n,lI⟩) d.kq.length d.pc)/\lH U ⟨o,n+r,lI⟩=lJ (kW lD (N:Int))/\lH U ⟨d.pb,6,lI⟩=lJ (kX qo qn qc)):=fun U h=>⟨qs h c0 bl,qs h cp aa,qs h c6 bl⟩);obtain⟨aG,aK,aH⟩:=L _ (brw w).drew;go_region_held3 (fun w'=>lH w' ⟨d.pb,0,lI⟩=lJ (kX (lJ ⟨o,n,lI⟩) d.kq.length d.pc)/\lH w' ⟨o,n+r,lI⟩=lJ (kW lD (N:Int))/\lH w' ⟨d.pb,6,lI⟩=lJ (kX qo qn qc)) (first|exact L _ brf.drew|exact L _ g|exact L _ G) (first|(go_at_call 37;refine(JK K (HQ.iP g) (by omega) (by omega)).mono ?_;rintro a3 J ⟨v2,rfl,⟨xo,xn,xc,rfl,af,_⟩,C⟩;have G:=et g C;clear C;have lx:xn<=302:=(by rw[<-af.len];have h9:=JE N s.q;have h8:=lQ am;omega);have ak:=hid af;clear af)|(go_at_call 35;refine(JN (by omega)).mono ?_;rintro aZ aA ⟨v1,rfl,⟨wo,wn,wc,rfl,u,_⟩,B⟩;have g:=(brw w).drew.trans (B.mono ((brw w).drew).size);clear B;have lw:wn<=2:=(by rw[<-u.len];exact lQ am);have K:=hid u;clear u));clear L aG aK aH;have T:=hid (et v G);clear v;clear c0 cp c6 bl;(have V:Hid (Row J xo xn xc (zA (yE d.a s.R r 0))):=by rw[EO,<-HN.out.2];exact ak);clear ak K;go_wp2
 go_loopg[5,6] d.us.length (fun gg s5 ix wr=>∃(i:Nat) (xo:Option Addr) (xn xc:Nat),gg=d.us.length-i/\i<=d.us.length/\ix=kW lD i/\s5=kX xo xn xc/\Hid (Row wr xo xn xc (zA (yE d.a s.R r i)))/\Hid (Bl w wr))
 case atStart=>exact⟨0,_,_,_,rfl,ep _,rfl,rfl,V,T⟩
 case round=>
  clear V T
  skip
  obtain⟨i,yo,yn,yc,a5,hi,rfl,rfl,hY,hB⟩:=hrel;(have ly:yn<=302:=by rw[<-hY.out.len];have h9:=jAH (F7 d.a s.R r i);have h8:=JE (d.a.P r) s.q;have h7:=lQ (d.P_le HO r);have h6:=HS.q;have e6:s.R.q=s.q:=rfl;rw[e6]at h9;omega);obtain⟨bh,bg,aX,aY,bf,be,bd,c,Z,X,l,m,Y,E⟩:=(H.iP hB).box;have O:=c.lt;have e1:lH wr ⟨d.pb,1,lI⟩=lJ (kX d.ao d.us.length d.cap):=c.cell 1 _ rfl;by_cases A:i<d.us.length
  ·(have a6:(i:Int)<(d.us.length:Int):=by omega);have e5:lH wr ⟨d.pb,5,lI⟩=lJ aY:=c.cell 5 _ rfl;have e4:lH wr ⟨d.pb,4,lI⟩=lJ aX:=c.cell 4 _ rfl;have aV:=HS.sl;have aQ:=HS.hl;obtain⟨so,sc,rfl⟩:=m.kE;rw[aV]at m e5;obtain⟨sb,rfl,bb,cs,_⟩:=m.get (i:=i) (by omega);rw[eC]at cs;obtain⟨a9,hc,rfl⟩:=l.kE;rw[aQ]at l e4;obtain⟨k,ha,S,z,rfl,aw,ch,_,F⟩:=l.get (i:=i) (by omega);rw[eC]at ch;have aj:=hid F;have a4:=F.len;have aW:=HS.hs i A;clear F c Z X l m Y E;obtain⟨ub,uo,da,dn,dc,aP,ap,a0,a1,a2,hd⟩:=(H.kr.iP hB).get A;rw[aP]at e1;have ar:=hd.len;rw[j9,HO.out.kx.len A]at ar;subst ar;obtain⟨W,j,au,aq⟩:=hd.head (by omega);have cd:=hd.int au hr;subst au;clear a1 a2 hd;obtain⟨M,hM⟩:∃M:Nat,lm (ug d.us i).dem r=(M:Int)/\M=d.a.D i r:=⟨_,d.D_eq HO A r,rfl⟩;rw[hM.1]at cd;(have al:M<=10000:=by rw[hM.2];exact d.D_le HO A r);have ai:=hid hM.2;clear hM
   cases ae:bn s.sl i with
   |true=>have HE:Hid (yE d.a s.R r (i+1)=yE d.a s.R r i):=wH ae;go_wp2;go_roundg (d.us.length-(i+1));exact⟨i+1,yo,yn,yc,rfl,by omega,by go_num,rfl,by rw[HE.out];exact hY,hB⟩;omega
   |false=>(have HE:Hid (yE d.a s.R r (i+1)=yE d.a s.R r i-M*nn s.hl i):=by rw[Hid,xv ae,ai.out];rfl);(have aB:Hid (M*nn s.hl i<=yE d.a s.R r i):=by have h9:=aC.out i A ae;rw[ai.out];exact h9);(go_upto_region 6 with fail);(have L:Hid (∀U,Bl wr U->lH U ⟨d.pb,1,lI⟩=lJ (kX (lJ ⟨ub,uo,lI⟩) d.us.length d.cap)/\lH U ⟨ub,uo+i*3,lI⟩=lJ (kX (lJ ⟨W,j,lI⟩) d.kq.length dc)/\lH U ⟨W,j+r,lI⟩=lJ (kW lD (M:Int))/\lH U ⟨d.pb,4,lI⟩=lJ (kX (lJ ⟨k,0,lI⟩) d.us.length hc)/\lH U ⟨k,i,lI⟩=lJ (kX ha S z)):=fun U h=>⟨qs h e1 O,qs h a0 ap,qs h cd aq,qs h e4 O,qs h ch aw⟩);obtain⟨aL,aF,aI,aM,aJ⟩:=L _ (brw wr).drew;go_region_held3 (fun w'=>lH w' ⟨d.pb,1,lI⟩=lJ (kX (lJ ⟨ub,uo,lI⟩) d.us.length d.cap)/\lH w' ⟨ub,uo+i*3,lI⟩=lJ (kX (lJ ⟨W,j,lI⟩) d.kq.length dc)/\lH w' ⟨W,j+r,lI⟩=lJ (kW lD (M:Int))/\lH w' ⟨d.pb,4,lI⟩=lJ (kX (lJ ⟨k,0,lI⟩) d.us.length hc)/\lH w' ⟨k,i,lI⟩=lJ (kX ha S z)) (first|exact L _ brf.drew|exact L _ b|exact L _ f) (first|(go_at_call 37;refine(JK K (aj.iP b) (by omega) (by omega)).mono ?_;rintro aO I ⟨v2,rfl,⟨zo,zn,zc,rfl,ag,_⟩,y⟩;have f:Bl wr I:=et b y;clear y;have lz:zn<=302:=(by rw[<-ag.len];have h9:=JE M (nn s.hl i);have h8:=lQ al;omega);have aE:=hid ag;clear ag)|(go_at_call 35;refine(JN (by omega)).mono ?_;rintro aN ah ⟨v1,rfl,⟨wo,wn,wc,rfl,u,_⟩,x⟩;have b:Bl wr ah:=(brw wr).drew.trans (x.mono ((brw wr).drew).size);clear x;have lw:wn<=2:=(by rw[<-u.len];exact lQ al);have K:=hid u;clear u));clear L aL aF aI aM aJ;have ac:=hid (hY.iP f);have t:Hid (Bl w I):=et hB f;clear hY hB;clear e1 a0 cd e4 ch e5 cs;go_wp2_with fail;refine(ou ac aE (by omega) (by omega) aB).mono ?_;rintro e9 w9 ⟨v9,rfl,⟨ro,rn,rc,rfl,az,_⟩,an⟩;have ab:Hid (Bl w w9):=et t an;clear t;have aD:=hid az;clear an az;go_wp2;go_roundg (d.us.length-(i+1));exact⟨i+1,ro,rn,rc,rfl,by omega,by go_num,rfl,by rw[HE.out];exact aD,ab⟩;omega
  ·(obtain rfl:i=d.us.length:=by omega);clear c Z X l m Y E;go_wp2;go_ret;exact⟨yo,yn,yc,rfl,hY,ly,hB⟩
def xq (d:RD)(s:RV)(r:Nat)(i:Nat):Nat:=if s.R.kv i then d.a.D i r*nn s.gl i else 0
theorem H7 (ho:d.Ok)(hs:s.Ok d)(r:Nat)(hi:i<d.us.length):(zA (xq d s r i)).length<=10:=by
 unfold xq;split
 ·have b:=JE (d.a.D i r) (nn s.gl i);have c:=lQ (d.D_le ho hi r);have e:=hs.gs i hi;omega
 ·rw[JD];exact ep _
theorem I1 (ho:d.Ok)(hs:s.Ok d)(r:Nat):∀i,i<=d.us.length->(zA (xp (xq d s r) i)).length<=10+i:=by
 intro i
 induction i with
 |zero=>intro _;show(zA 0).length<=_;rw[JD];exact ep _
 |succ i ih=>intro e;have a:=ih (by omega);have b:=H7 ho hs r (i:=i) (by omega);have c:=uy (xp (xq d s r) i) (xq d s r i);show(zA (xp (xq d s r) i+xq d s r i)).length<=_;omega
theorem Af (h:RisM w d s)(ho:d.Ok)(hs:s.Ok d)(hr:r<d.kq.length):Calls prog 84 #[kY (lJ ⟨d.pb,0,lI⟩),kW lD r] w fun e w'=>∃xo xn xc,e=lF (kX xo xn xc)/\Row w' xo xn xc (zA (zX d.a (nn s.gl) s.R r))/\xn<=16/\Below w.heap.size w w':=by
 have aA:=ho.k4;have aB:=ho.n6;have H:=hid h;have HO:=hid ho;have HS:=hid hs;clear h ho hs;have A:=hid (brw w);go_enter func84,ntmps84;(have aD:(r:Int)<(d.kq.length:Int):=by omega);go_wp2
 go_loopg[5,6] d.us.length (fun gg s5 ix wr=>∃(i:Nat) (xo:Option Addr) (xn xc:Nat),gg=d.us.length-i/\i<=d.us.length/\ix=kW lD i/\s5=kX xo xn xc/\Hid (Row wr xo xn xc (zA (xp (xq d s r) i)))/\Hid (Bl w wr))
 case atStart=>exact⟨0,_,_,_,rfl,ep _,rfl,rfl,(by show Row w lI 0 0 (zA 0);rw[JD];exact Row.nil w),A⟩
 case round=>
  clear A;obtain⟨i,yo,yn,yc,ay,hi,rfl,rfl,S,hB⟩:=hrel;(have ly:yn<=16:=by rw[<-S.out.len];have h9:=I1 HO HS r i hi;omega);obtain⟨aJ,au,aI,aw,aH,aG,aF,c,F,k,C,l,E,u⟩:=(H.iP hB).box;have y:=c.lt;have e1:lH wr ⟨d.pb,1,lI⟩=lJ (kX d.ao d.us.length d.cap):=c.cell 1 _ rfl;by_cases t:i<d.us.length
  ·(have az:(i:Int)<(d.us.length:Int):=by omega);have e5:=c.cell 5 _ rfl;have e4:=c.cell 3 _ rfl;have aq:=HS.sl;have ap:=HS.gl;obtain⟨so,sc,rfl⟩:=l.kE;rw[aq]at l e5;obtain⟨sb,rfl,aE,cs,_⟩:=l.get (i:=i) (by omega);rw[eC]at cs;obtain⟨aC,hc,rfl⟩:=k.kE;rw[ap]at k e4;obtain⟨j,ha,z,q,rfl,Z,ch,_,v⟩:=k.get (i:=i) (by omega);rw[eC]at ch;have P:=hid v;have ax:=v.len;have ar:=HS.gs i t;clear v c F k C l E u;obtain⟨G,I,da,dn,dc,an,V,a0,a1,a2,hd⟩:=(H.kr.iP hB).get t;rw[an]at e1;have X:=hd.len;rw[j9,HO.out.kx.len t]at X;subst X;obtain⟨B,g,Y,W⟩:=hd.head (by omega);have cd:=hd.int Y hr;subst Y;clear a1 a2 hd;obtain⟨M,hM⟩:∃M:Nat,lm (ug d.us i).dem r=(M:Int)/\M=d.a.D i r:=⟨_,d.D_eq HO t r,rfl⟩;rw[hM.1]at cd;(have Q:M<=10000:=by rw[hM.2];exact d.D_le HO t r);have ac:=hid hM.2;clear hM
   cases ab:bn s.sl i with
   |false=>(have HE:Hid (xp (xq d s r) (i+1)=xp (xq d s r) i):=by show xp (xq d s r) i+xq d s r i=_;have h9:xq d s r i=0:=ec (by show¬ bn s.sl i=lK;rw[ab];simp);omega);go_wp2;go_roundg (d.us.length-(i+1));exact⟨i+1,yo,yn,yc,rfl,by omega,by go_num,rfl,by rw[HE.out];exact S,hB⟩;omega
   |true=>(have HE:Hid (xp (xq d s r) (i+1)=xp (xq d s r) i+M*nn s.gl i):=by show xp (xq d s r) i+xq d s r i=_;have h9:xq d s r i=d.a.D i r*nn s.gl i:=ed ab;rw[h9,ac.out]);(go_upto_region 6 with fail);(have SK:Hid (∀U,Bl wr U->lH U ⟨d.pb,1,lI⟩=lJ (kX (lJ ⟨G,I,lI⟩) d.us.length d.cap)/\lH U ⟨G,I+i*3,lI⟩=lJ (kX (lJ ⟨B,g,lI⟩) d.kq.length dc)/\lH U ⟨B,g+r,lI⟩=lJ (kW lD (M:Int))/\lH U ⟨d.pb,3,lI⟩=lJ (kX (lJ ⟨j,0,lI⟩) d.us.length hc)/\lH U ⟨j,i,lI⟩=lJ (kX ha z q)):=fun U h=>⟨qs h e1 y,qs h a0 V,qs h cd W,qs h e4 y,qs h ch Z⟩);obtain⟨aj,ag,ah,ak,ai⟩:=SK _ (brw wr).drew;go_region_held3 (fun w'=>lH w' ⟨d.pb,1,lI⟩=lJ (kX (lJ ⟨G,I,lI⟩) d.us.length d.cap)/\lH w' ⟨G,I+i*3,lI⟩=lJ (kX (lJ ⟨B,g,lI⟩) d.kq.length dc)/\lH w' ⟨B,g+r,lI⟩=lJ (kW lD (M:Int))/\lH w' ⟨d.pb,3,lI⟩=lJ (kX (lJ ⟨j,0,lI⟩) d.us.length hc)/\lH w' ⟨j,i,lI⟩=lJ (kX ha z q)) (first|exact SK _ brf.drew|exact SK _ b|exact SK _ f) (first|(go_at_call 37;refine(JK ae (P.iP b) (by omega) (by omega)).mono ?_;rintro am x ⟨v2,rfl,⟨zo,zn,zc,rfl,N,_⟩,o⟩;have f:Bl wr x:=et b o;clear o;have lz:zn<=10:=(by rw[<-N.len];have h9:=JE M (nn s.gl i);have h8:=lQ Q;omega);have af:=hid N;clear N)|(go_at_call 35;refine(JN (by omega)).mono ?_;rintro al O ⟨v1,rfl,⟨wo,wn,wc,rfl,L,_⟩,n⟩;have b:Bl wr O:=(brw wr).drew.trans (n.mono ((brw wr).drew).size);clear n;have lw:wn<=2:=(by rw[<-L.len];exact lQ Q);have ae:=hid L;clear L));clear SK aj ag ah ak ai;have K:=hid (S.iP f);have m:Hid (Bl w x):=et hB f;clear S hB;clear e1 a0 cd e4 ch e5 cs;go_wp2_with fail;refine(Ah K af (by omega) (by omega)).mono ?_;rintro e9 w9 ⟨v9,rfl,⟨ro,rn,rc,rfl,aa,_⟩,T⟩;have J:Hid (Bl w w9):=et m T;clear m;have ad:=hid aa;clear T aa;go_wp2;go_roundg (d.us.length-(i+1));exact⟨i+1,ro,rn,rc,rfl,by omega,by go_num,rfl,by rw[HE.out];exact ad,J⟩;omega
  ·(obtain rfl:i=d.us.length:=by omega);clear c F k C l E u;go_wp2;go_ret;exact⟨yo,yn,yc,rfl,S,ly,hB⟩
variable{x:Nat}
theorem n9:(zA x).length=0↔x=0:=by
 constructor
 ·intro h;apply eO;intro a;exact ml a (iq.1 h)
 ·rintro rfl;rw[JD];rfl
variable{y:Nat}
theorem rG:zQ (x:Int) (y:Int)<0↔x<y:=by
 unfold zQ;by_cases h:(x:Int)<y
 ·rw[ed h];omega
 ·rw[ec h];by_cases e:(x:Int)=y
  ·rw[ed e];omega
  ·rw[ec e];omega
variable{gr:Nat->Nat}
theorem E4 {a:NProb}{R:RS}(h:zX a gr R r=0):zR a gr R (r+1)=zR a gr R r:=by simp[zR,h]
theorem wk {a:NProb}{R:RS}(h:zX a gr R r≠0)(h2:(zR a gr R r).2.1=0\/lft a R r*(zR a gr R r).2.1<(zR a gr R r).1*zX a gr R r):zR a gr R (r+1)=(lft a R r,zX a gr R r,lK):=by simp only[zR];rw[ec h,ed h2]
theorem Ex {a:NProb}{R:RS}(h:zX a gr R r≠0)(h2:¬ ((zR a gr R r).2.1=0\/lft a R r*(zR a gr R r).2.1<(zR a gr R r).1*zX a gr R r)):zR a gr R (r+1)=zR a gr R r:=by simp only[zR];rw[ec h,ec h2]
theorem EM {a:NProb}{R:RS}{x0:Nat×Nat×Bool}(h:R.kv i=lL):yA a gr R x0 (i+1)=yA a gr R x0 i:=by simp[yA,h]
theorem E8 {a:NProb}{R:RS}{x0:Nat×Nat×Bool}(h:R.kv i=lK)(h2:a.C i*R.q*(yA a gr R x0 i).2.1<(yA a gr R x0 i).1*gr i):yA a gr R x0 (i+1)=(a.C i*R.q,gr i,lL):=by simp only[yA];rw[ed h,ed h2]
theorem EG {a:NProb}{R:RS}{x0:Nat×Nat×Bool}(h:R.kv i=lK)(h2:¬ a.C i*R.q*(yA a gr R x0 i).2.1<(yA a gr R x0 i).1*gr i):yA a gr R x0 (i+1)=yA a gr R x0 i:=by simp only[yA];rw[ed h,ec h2]
theorem RD.C_eq (h:d.Ok)(hi:i<d.us.length):(ug d.us i).cap=((d.a.C i:Nat):Int):=by
 have:=h.kx.cap hi;show(ug d.us i).cap=(((ug d.us i).cap.toNat:Nat):Int);omega
theorem RD.C_le (h:d.Ok)(hi:i<d.us.length):d.a.C i<=1000:=by have:=h.kx.cap hi;have:=d.C_eq h hi;omega
theorem FG (h:RisM w d s)(ho:d.Ok)(hs:s.Ok d)(hle:∀r,r<d.kq.length->∀i,i<d.us.length->bn s.sl i=lL->d.a.D i r*nn s.hl i<=yE d.a s.R r i):Calls prog 38 #[kY (lJ ⟨d.pb,0,lI⟩)] w fun e w'=>∃no nm nc so sm sc,e=lF (lB #[kX no nm nc,kX so sm sc,kZ (yF d.a (nn s.gl) s.R).2.2])/\Row w' no nm nc (zA (yF d.a (nn s.gl) s.R).1)/\Row w' so sm sc (zA (yF d.a (nn s.gl) s.R).2.1)/\nm<=302/\sm<=16/\Below w.heap.size w w':=by
 have bx:=ho.k4;have bz:=ho.n6;have H:=hid h;have HO:=hid ho;have HS:=hid hs;have a3:=hid hle;clear h ho hs hle;have ak:=hid (brw w);go_enter func38,ntmps38;go_wp2
 go_loopg[5,6,7,8] d.kq.length (fun gg s5 s6 s7 ix wr=>∃(r:Nat) (no:Option Addr) (nm nc:Nat) (so:Option Addr) (sm sc:Nat),gg=d.kq.length-r/\r<=d.kq.length/\ix=kW lD r/\s5=kX no nm nc/\s6=kX so sm sc/\s7=kZ (zR d.a (nn s.gl) s.R r).2.2/\Hid (Row wr no nm nc (zA (zR d.a (nn s.gl) s.R r).1))/\Hid (Row wr so sm sc (zA (zR d.a (nn s.gl) s.R r).2.1))/\nm<=302/\sm<=16/\Hid (Bl w wr))
 case atStart=>exact⟨0,lI,0,0,lI,0,0,rfl,ep _,rfl,rfl,rfl,rfl,(by show Row w lI 0 0 (zA 0);rw[JD];exact Row.nil w),(by show Row w lI 0 0 (zA 0);rw[JD];exact Row.nil w),by omega,by omega,ak⟩
 case round=>
  clear ak;obtain⟨r,no,nm,nc,so,sm,sc,bv,hr,rfl,rfl,rfl,rfl,hN,v,ln,ls,hB⟩:=hrel;obtain⟨bk,bg,bj,aY,ac,ab,aa,b,X,S,W,l,m,y⟩:=(H.iP hB).box;have A:=b.lt;have e0:=b.cell 0 _ rfl;clear b X S W l m y;by_cases aB:r<d.kq.length
  ·(have bA:(r:Int)<(d.kq.length:Int):=by omega);go_wp2_with fail;refine (Af (H.iP hB) HO HS aB).mono ?_;rintro e1 w1 ⟨fo,fn,fc,rfl,ay,lf,ai⟩;have E:=hid (hN.iP ai);have I:=hid (v.iP ai);have k:=hid (et hB ai);clear hN v hB;clear ai e0 A;have aH:=hid ay;have aE:=ay.len;clear ay;by_cases N:zX d.a (nn s.gl) s.R r=0
   ·have c:=hid (E4 N);(have aN:fn=0:=by rw[<-aE,N,JD];rfl);subst aN;clear aE N;go_wp2;go_roundg (d.kq.length-(r+1));exact⟨r+1,no,nm,nc,so,sm,sc,rfl,by omega,by go_num,rfl,rfl,by rw[c.out],by rw[c.out];exact E,by rw[c.out];exact I,by omega,by omega,k⟩;omega
   ·(have aN:((fn:Int) == 0)=lL:=by rw[eg];intro h5;exact N (n9.1 (by omega)));clear aE;go_wp2_with fail;refine (sZ (H.iP k) HO HS aB (a3 r aB)).mono ?_;rintro e2 w2 ⟨vo,vn,vc,rfl,Z,lv,ae⟩;have F:=hid (E.iP ae);have u:=hid (I.iP ae);have t:=hid (aH.iP ae);have n:=hid (et k ae);clear E I aH k;have z:=hid Z;clear ae Z;have aF:=u.len;by_cases aj:(zR d.a (nn s.gl) s.R r).2.1=0
    ·have c:=hid (wk N (Or.inl aj));(have aX:sm=0:=by rw[<-aF,aj,JD];rfl);subst aX;clear aF;go_wp2;go_roundg (d.kq.length-(r+1));exact⟨r+1,vo,vn,vc,fo,fn,fc,rfl,by omega,by go_num,rfl,rfl,by rw[c.out],by rw[c.out];exact z,by rw[c.out];exact t,by omega,by omega,n⟩;omega
    ·(have aX:((sm:Int) == 0)=lL:=by rw[eg];intro h5;exact aj (n9.1 (by omega)));clear aF;go_wp2_with fail;refine(qL z t F u (by omega) (by omega) (by omega) (by omega)).mono ?_;rintro e3 w3 ⟨rfl,f⟩;have an:=hid (F.iP f);have aq:=hid (u.iP f);have am:=hid (t.iP f);have au:=hid (z.iP f);have ad:=hid (et n f);clear F u t z n;clear f;by_cases Y:lft d.a s.R r*(zR d.a (nn s.gl) s.R r).2.1<(zR d.a (nn s.gl) s.R r).1*zX d.a (nn s.gl) s.R r
     ·have c:=hid (wk N (Or.inr Y));have K:=rG.2 Y;generalize zQ ((lft d.a s.R r*(zR d.a (nn s.gl) s.R r).2.1:Nat):Int) (((zR d.a (nn s.gl) s.R r).1*zX d.a (nn s.gl) s.R r:Nat):Int)=cc at K ⊢;clear Y;go_wp2;go_roundg (d.kq.length-(r+1));exact⟨r+1,vo,vn,vc,fo,fn,fc,rfl,by omega,by go_num,rfl,rfl,by rw[c.out],by rw[c.out];exact au,by rw[c.out];exact am,by omega,by omega,ad⟩;omega
     ·have c:=hid (Ex N (fun h5=>h5.elim aj Y));(have K:¬ zQ ((lft d.a s.R r*(zR d.a (nn s.gl) s.R r).2.1:Nat):Int) (((zR d.a (nn s.gl) s.R r).1*zX d.a (nn s.gl) s.R r:Nat):Int)<0:=fun h5=>Y (rG.1 h5));generalize zQ ((lft d.a s.R r*(zR d.a (nn s.gl) s.R r).2.1:Nat):Int) (((zR d.a (nn s.gl) s.R r).1*zX d.a (nn s.gl) s.R r:Nat):Int)=cc at K ⊢;clear Y;go_wp2;go_roundg (d.kq.length-(r+1));exact⟨r+1,no,nm,nc,so,sm,sc,rfl,by omega,by go_num,rfl,rfl,by rw[c.out],by rw[c.out];exact an,by rw[c.out];exact aq,by omega,by omega,ad⟩;omega
  ·(obtain rfl:r=d.kq.length:=by omega);go_wp2
   go_loopg[5,6,7,11] d.us.length (fun gg s5 s6 s7 ix wr=>∃(i:Nat) (no:Option Addr) (nm nc:Nat) (so:Option Addr) (sm sc:Nat),gg=d.us.length-i/\i<=d.us.length/\ix=kW lD i/\s5=kX no nm nc/\s6=kX so sm sc/\s7=kZ (yA d.a (nn s.gl) s.R (zR d.a (nn s.gl) s.R d.kq.length) i).2.2/\Hid (Row wr no nm nc (zA (yA d.a (nn s.gl) s.R (zR d.a (nn s.gl) s.R d.kq.length) i).1))/\Hid (Row wr so sm sc (zA (yA d.a (nn s.gl) s.R (zR d.a (nn s.gl) s.R d.kq.length) i).2.1))/\nm<=302/\sm<=16/\Hid (Bl w wr))
   case atStart=>exact⟨0,no,nm,nc,so,sm,sc,rfl,ep _,rfl,rfl,rfl,rfl,hN,v,ln,ls,hB⟩
   case round=>
    clear hN v hB e0 A;obtain⟨i,no,nm,nc,so,sm,sc,bu,hi,rfl,rfl,rfl,rfl,hN,v,ln,ls,hB⟩:=hrel;obtain⟨bk,bg,bj,aY,ac,ab,aa,b,X,S,W,l,m,y⟩:=(H.iP hB).box;have A:=b.lt;have e1:lH wr ⟨d.pb,1,lI⟩=lJ (kX d.ao d.us.length d.cap):=b.cell 1 _ rfl;by_cases ah:i<d.us.length
    ·(have bw:(i:Int)<(d.us.length:Int):=by omega);have e5:=b.cell 5 _ rfl;have e6:=b.cell 6 _ rfl;have bf:=HS.sl;obtain ⟨zo,zc,rfl⟩:=l.kE;rw[bf] at l e5;obtain ⟨sb,rfl,bB,cs,_⟩:=l.get (i:=i) (by omega);rw[eC] at cs;have HQ:=hid m;have lq:=m.len;have bD:=HS.q;clear b X S W l m y;obtain ⟨ub,uo,da,dn,dc,bd,aM,a0,a1,a2,hd⟩:=(H.kr.iP hB).get ah;rw[bd] at e1;clear a0 a1 hd;obtain ⟨M,hM⟩:∃ M:Nat,(ug d.us i).cap=(M:Int)/\M=d.a.C i:=⟨_,d.C_eq HO ah,rfl⟩;rw[hM.1] at a2;(have aL:M<=10000:=by rw[hM.2];have:=d.C_le HO ah;omega);have al:=hid hM.2;clear hM
     cases aC:bn s.sl i with
     |false=>have c:=hid (EM (a:=d.a) (gr:=nn s.gl) (R:=s.R) (x0:=(zR d.a (nn s.gl) s.R d.kq.length)) (i:=i) aC);go_wp2;go_roundg (d.us.length-(i+1));exact⟨i+1,no,nm,nc,so,sm,sc,rfl,by omega,by go_num,rfl,rfl,by rw[c.out],by rw[c.out];exact hN,by rw[c.out];exact v,by omega,by omega,hB⟩;omega
     |true=>
      (go_upto_region 17 with fail);(have SK:Hid (∀U,Bl wr U->lH U ⟨d.pb,1,lI⟩=lJ (kX (lJ ⟨ub,uo,lI⟩) d.us.length d.cap)/\lH U ⟨ub,uo+i*3+2,lI⟩=lJ (kW lD (M:Int))/\lH U ⟨d.pb,6,lI⟩=lJ (kX ac ab aa)):=fun U h=>⟨qs h e1 A,qs h a2 aM,qs h e6 A⟩);obtain⟨a8,a7,a9⟩:=SK _ (brw wr).drew;go_region_held3 (fun w'=>lH w' ⟨d.pb,1,lI⟩=lJ (kX (lJ ⟨ub,uo,lI⟩) d.us.length d.cap)/\lH w' ⟨ub,uo+i*3+2,lI⟩=lJ (kW lD (M:Int))/\lH w' ⟨d.pb,6,lI⟩=lJ (kX ac ab aa)) (first|exact SK _ brf.drew|exact SK _ g|exact SK _ j) (first|(go_at_call 37;refine(JK aI (HQ.iP g) (by omega) (by omega)).mono ?_;rintro bb O ⟨v2,rfl,⟨vo,vn,vc,rfl,Z,_⟩,Q⟩;have j:=et g Q;clear Q;have lv:vn<=302:=(by rw[<-Z.len];have h9:=JE M s.q;have h8:=lQ aL;omega);have z:=hid Z;clear Z)|(go_at_call 35;refine(JN (by omega)).mono ?_;rintro ba aG ⟨v1,rfl,⟨wo,wn,wc,rfl,aD,_⟩,P⟩;have g:=(brw wr).drew.trans (P.mono ((brw wr).drew).size);clear P;have lw:wn<=2:=(by rw[<-aD.len];exact lQ aL);have aI:=hid aD;clear aD));clear SK a8 a7 a9;have G:=hid (hN.iP j);have J:=hid (v.iP j);have o:=hid (et hB j);clear hN v hB;clear e1 a2 e6 e5 cs A aI HQ;obtain⟨bO,bh,bK,bM,bI,bG,bE,af,aV,T,aP,aT,aR,az⟩:=(H.iP o).box;have a5:=af.lt;have e3:=af.cell 3 _ rfl;have aO:=HS.gl;obtain⟨bt,bs,rfl⟩:=T.kE;rw[aO]at T e3;obtain⟨gb,ga,gk,aJ,rfl,be,cg,_,L⟩:=T.get (i:=i) (by omega);rw[eC]at cg;have HG:=hid L;(have lg:gk<=8:=by rw[<-L.len];exact HS.gs i ah);clear L af aV T aP aT aR az;go_wp2_with fail;refine(qL z HG G J (by omega) (by omega) (by omega) (by omega)).mono ?_;rintro bq w3 ⟨rfl,f⟩;have ap:=hid (G.iP f);have ar:=hid (J.iP f);have aw:=hid (z.iP f);have B:Hid (Bl w w3):=et o f;clear G J z HG o;clear f cg e3 be a5;obtain⟨bP,bi,bL,bN,bJ,bH,bF,ag,aW,V,aQ,aU,aS,aA⟩:=(H.iP B).box;have bp:=ag.lt;have k3:lH w3 ⟨d.pb,3,lI⟩=lJ bi:=ag.cell 3 _ rfl;obtain⟨bm,bl,rfl⟩:=V.kE;rw[aO]at V k3;obtain⟨br,bc,aK,ax,rfl,bo,a6,_,x⟩:=V.get (i:=i) (by omega);rw[eC]at a6;have aZ:=hid x;(have bC:aK<=8:=by rw[<-x.len];exact HS.gs i ah);clear x ag aW V aQ aU aS aA;by_cases Y:M*s.q*(yA d.a (nn s.gl) s.R (zR d.a (nn s.gl) s.R d.kq.length) i).2.1<(yA d.a (nn s.gl) s.R (zR d.a (nn s.gl) s.R d.kq.length) i).1*nn s.gl i
      ·(have c:Hid ((yA d.a (nn s.gl) s.R (zR d.a (nn s.gl) s.R d.kq.length) (i+1))=(M*s.q,nn s.gl i,lL)):=by have h9:=E8 (a:=d.a) (gr:=nn s.gl) (R:=s.R) (x0:=(zR d.a (nn s.gl) s.R d.kq.length)) (i:=i) aC (by rw[<-al.out];exact Y);rw[<-al.out]at h9;exact h9);have K:zQ ((M*s.q*(yA d.a (nn s.gl) s.R (zR d.a (nn s.gl) s.R d.kq.length) i).2.1:Nat):Int) (((yA d.a (nn s.gl) s.R (zR d.a (nn s.gl) s.R d.kq.length) i).1*nn s.gl i:Nat):Int)<0:=rG.2 Y;generalize zQ ((M*s.q*(yA d.a (nn s.gl) s.R (zR d.a (nn s.gl) s.R d.kq.length) i).2.1:Nat):Int) (((yA d.a (nn s.gl) s.R (zR d.a (nn s.gl) s.R d.kq.length) i).1*nn s.gl i:Nat):Int)=cc at K ⊢;clear Y;go_wp2;go_roundg (d.us.length-(i+1));exact⟨i+1,vo,vn,vc,bc,aK,ax,rfl,by omega,by go_num,rfl,rfl,by rw[c.out],by rw[c.out];exact aw,by rw[c.out];exact aZ,by omega,by omega,B⟩;omega
      ·have c:Hid ((yA d.a (nn s.gl) s.R (zR d.a (nn s.gl) s.R d.kq.length) (i+1))=(yA d.a (nn s.gl) s.R (zR d.a (nn s.gl) s.R d.kq.length) i)):=EG aC (by rw[<-al.out];exact Y);(have K:¬ zQ ((M*s.q*(yA d.a (nn s.gl) s.R (zR d.a (nn s.gl) s.R d.kq.length) i).2.1:Nat):Int) (((yA d.a (nn s.gl) s.R (zR d.a (nn s.gl) s.R d.kq.length) i).1*nn s.gl i:Nat):Int)<0:=fun h5=>Y (rG.1 h5));generalize zQ ((M*s.q*(yA d.a (nn s.gl) s.R (zR d.a (nn s.gl) s.R d.kq.length) i).2.1:Nat):Int) (((yA d.a (nn s.gl) s.R (zR d.a (nn s.gl) s.R d.kq.length) i).1*nn s.gl i:Nat):Int)=cc at K ⊢;clear Y;go_wp2;go_roundg (d.us.length-(i+1));exact⟨i+1,no,nm,nc,so,sm,sc,rfl,by omega,by go_num,rfl,rfl,by rw[c.out],by rw[c.out];exact ap,by rw[c.out];exact ar,by omega,by omega,B⟩;omega
    ·(obtain rfl:i=d.us.length:=by omega);clear b X S W l m y;go_wp2;go_ret3;exact⟨no,nm,nc,so,sm,sc,rfl,hN,v,ln,ls,hB⟩
theorem nJ:zQ (x:Int) (y:Int)=0↔x=y:=by
 unfold zQ;by_cases h:(x:Int)<y
 ·rw[ed h];omega
 ·rw[ec h];by_cases e:(x:Int)=y
  ·rw[ed e];omega
  ·rw[ec e];omega
variable{sc S:Nat}
theorem D1 {no so:Option Addr}{nm sm:Nat}(h:RisM w d s)(ho:d.Ok)(hs:s.Ok d)(hle:∀r,r<d.kq.length->∀i,i<d.us.length->bn s.sl i=lL->d.a.D i r*nn s.hl i<=yE d.a s.R r i)(hi:i<d.us.length)(hN:Row w no nm nc (zA N))(hS:Row w so sm sc (zA S))(ln:nm<=302)(ls:sm<=16):Calls prog 39 #[kY (lJ ⟨d.pb,0,lI⟩),kW lD i,kX no nm nc,kX so sm sc] w fun e w'=>(∃b:Bool,e=lF (kZ b)/\(b=lK↔xH d.a (nn s.gl) s.R N S i))/\Below w.heap.size w w':=by
 have bm:=ho.k4;have bo:=ho.n6;have H:=hid h;have HO:=hid ho;have HS:=hid hs;have aS:=hid hle;have HN:=hid hN;have aE:=hid hS;clear h ho hs hle hN hS;(have bl:(i:Int)<(d.us.length:Int):=by omega);have z:=hid (brw w);go_enter func39,ntmps39;obtain⟨bc,a8,ba,bb,J,I,G,c,ae,ab,ac,ad,m,y⟩:=(H.iP z).box;have v:=c.lt;have e1:lH w ⟨d.pb,1,lI⟩=lJ (kX d.ao d.us.length d.cap):=c.cell 1 _ rfl;have e6:=c.cell 6 _ rfl;have HQ:=hid m;have lq:=m.len;have bq:=HS.q;clear c ae ab ac ad m y;obtain⟨ub,uo,da,dn,dc,ax,ai,a0,a1,a2,hd⟩:=H.kr.get hi;rw[ax]at e1;clear a0 a1 hd;obtain⟨M,hM⟩:∃M:Nat,(ug d.us i).cap=(M:Int)/\M=d.a.C i:=⟨_,d.C_eq HO hi,rfl⟩;rw[hM.1]at a2;(have aI:M<=10000:=by rw[hM.2];have:=d.C_le HO hi;omega);have aD:=hid hM.2;clear hM;(go_upto_region 1 with fail);(have SK:Hid (∀U,Bl w U->lH U ⟨d.pb,1,lI⟩=lJ (kX (lJ ⟨ub,uo,lI⟩) d.us.length d.cap)/\lH U ⟨ub,uo+i*3+2,lI⟩=lJ (kW lD (M:Int))/\lH U ⟨d.pb,6,lI⟩=lJ (kX J I G)):=fun U h=>⟨qs h e1 v,qs h a2 ai,qs h e6 v⟩);obtain⟨aY,aX,aZ⟩:=SK _ (brw w).drew;go_region_held3 (fun w'=>lH w' ⟨d.pb,1,lI⟩=lJ (kX (lJ ⟨ub,uo,lI⟩) d.us.length d.cap)/\lH w' ⟨ub,uo+i*3+2,lI⟩=lJ (kW lD (M:Int))/\lH w' ⟨d.pb,6,lI⟩=lJ (kX J I G)) (first|exact SK _ brf.drew|exact SK _ k|exact SK _ l) (first|(go_at_call 37;refine(JK aF (HQ.iP k) (by omega) (by omega)).mono ?_;rintro be ag ⟨v2,rfl,⟨vo,vn,vc,rfl,az,_⟩,Y⟩;have l:=et k Y;clear Y;have lv:vn<=302:=(by rw[<-az.len];have h9:=JE M s.q;have h8:=lQ aI;omega);have an:=hid az;clear az)|(go_at_call 35;refine(JN (by omega)).mono ?_;rintro bd aR ⟨v1,rfl,⟨wo,wn,wc,rfl,aA,_⟩,X⟩;have k:=(brw w).drew.trans (X.mono ((brw w).drew).size);clear X;have lw:wn<=2:=(by rw[<-aA.len];exact lQ aI);have aF:=hid aA;clear aA));clear SK aY aX aZ;have Q:=hid (HN.iP l);have V:=hid (aE.iP l);have A:=hid (et z l);clear HN aE z;clear e1 a2 e6 v aF HQ;obtain⟨bw,a9,bu,bv,bt,bs,br,aa,aQ,B,aN,aP,aO,ay⟩:=(H.iP A).box;have aW:=aa.lt;have e3:=aa.cell 3 _ rfl;have a6:=HS.gl;obtain⟨bi,bh,rfl⟩:=B.kE;rw[a6]at B e3;obtain⟨gb,ga,gk,aH,rfl,a5,cg,_,x⟩:=B.get (i:=i) (by omega);rw[eC]at cg;have HG:=hid x;(have lg:gk<=8:=by rw[<-x.len];exact HS.gs i hi);clear x aa aQ B aN aP aO ay;go_wp2_with fail;refine(qL an HG Q V (by omega) (by omega) (by omega) (by omega)).mono ?_;rintro bg w3 ⟨rfl,W⟩;have aj:=hid (Q.iP W);have ak:=hid (V.iP W);have L:Hid (Bl w w3):=et A W;clear Q V an A;clear W cg e3 a5 aW HG;by_cases F:M*s.q*S=N*nn s.gl i
 ·have am:Hid (xH d.a (nn s.gl) s.R N S i):=Or.inl (by rw[<-aD.out];exact F);have j:zQ ((M*s.q*S:Nat):Int) ((N*nn s.gl i:Nat):Int)=0:=nJ.2 F;rw[j];clear F j;go_wp2;go_ret;exact⟨⟨lK,rfl,fun _=>am,fun _=>rfl⟩,L⟩
 ·have HC:=hid F;(have j:(zQ ((M*s.q*S:Nat):Int) ((N*nn s.gl i:Nat):Int) == 0)=lL:=by rw[eg];exact fun g=>F (nJ.1 g));generalize zQ ((M*s.q*S:Nat):Int) ((N*nn s.gl i:Nat):Int)=cc at j ⊢;clear F;go_wp2
  go_loopg[11] d.kq.length (fun gg ix wr=>∃r:Nat,gg=d.kq.length-r/\r<=d.kq.length/\ix=kW lD r/\Hid (∀r',r'<r->¬ (0<d.a.D i r'/\lft d.a s.R r'*S=N*zX d.a (nn s.gl) s.R r'))/\Hid (Row wr no nm nc (zA N))/\Hid (Row wr so sm sc (zA S))/\Hid (Bl w wr))
  case atStart=>exact⟨0,rfl,ep _,rfl,fun r' g=>by omega,aj,ak,L⟩
  case round=>
   clear aj ak L;obtain⟨r,bk,hr,rfl,hz,au,aw,hB⟩:=hrel;obtain⟨bc,a8,ba,bb,J,I,G,c,ae,ab,ac,ad,m,y⟩:=(H.iP hB).box;have v:=c.lt;have e0:lH wr ⟨d.pb,0,lI⟩=lJ (kX d.po d.kq.length d.pc):=c.cell 0 _ rfl;have e1:lH wr ⟨d.pb,1,lI⟩=lJ (kX d.ao d.us.length d.cap):=c.cell 1 _ rfl;clear c ae ab ac ad m y;by_cases af:r<d.kq.length
   ·(have bp:(r:Int)<(d.kq.length:Int):=by omega);obtain ⟨ub,uo,da,dn,dc,ax,ai,a0,a1,a2,hd⟩:=(H.kr.iP hB).get hi;rw[ax] at e1;have aJ:=hd.len;rw[j9,HO.out.kx.len hi] at aJ;subst aJ;obtain ⟨db,bf,aK,a4⟩:=hd.head (by omega);have cd:=hd.int aK af;subst aK;clear a1 a2 hd;obtain ⟨D,hD⟩:∃ D:Nat,lm (ug d.us i).dem r=(D:Int)/\D=d.a.D i r:=⟨_,d.D_eq HO hi r,rfl⟩;rw[hD.1] at cd;have aB:=hid hD.2;clear hD
    have O:Hid (¬ (0<d.a.D i r/\lft d.a s.R r*S=N*zX d.a (nn s.gl) s.R r)->∀r',r'<r+1->¬ (0<d.a.D i r'/\lft d.a s.R r'*S=N*zX d.a (nn s.gl) s.R r')):=fun g r' h6=>by
     by_cases e:r'=r
     ·subst e;exact g
     ·exact hz r' (by omega)
    by_cases a3:D=0
    ·subst a3;have ap:=hid (O (fun g=>by rw[<-aB.out]at g;exact absurd g.1 (jD 0)));go_wp2;go_roundg (d.kq.length-(r+1));exact⟨r+1,rfl,by omega,by go_num,ap,au,aw,hB⟩;omega
    ·(have bj:(0:Int)<(D:Int):=by omega);go_wp2_with fail;refine(sZ (H.iP hB) HO HS af (aS r af)).mono ?_;rintro e7 w7 ⟨lo,a7,lc,rfl,aM,ll,ah⟩;have P:=hid (au.iP ah);have T:=hid (aw.iP ah);have f:Hid (Bl w w7):=et hB ah;clear au aw hB;have aC:=hid aM;clear ah aM e0 e1 a0 cd ai a4 v;go_wp2_with fail;refine(Af (H.iP f) HO HS af).mono ?_;rintro e8 w8 ⟨fo,fn,fc,rfl,aL,lf,Z⟩;have t:=hid (P.iP Z);have u:=hid (T.iP Z);have o:=hid (aC.iP Z);have n:Hid (Bl w w8):=et f Z;clear P T aC f;have al:=hid aL;clear Z aL;go_wp2_with fail;refine(qL o al t u (by omega) (by omega) (by omega) (by omega)).mono ?_;rintro e9 w9 ⟨rfl,E⟩;have aq:=hid (t.iP E);have ar:=hid (u.iP E);have K:Hid (Bl w w9):=et n E;clear t u o al n;clear E;by_cases F:lft d.a s.R r*S=N*zX d.a (nn s.gl) s.R r
     ·have am:Hid (xH d.a (nn s.gl) s.R N S i):=Or.inr ⟨r,af,by rw[<-aB.out];omega,F⟩;have j:zQ ((lft d.a s.R r*S:Nat):Int) ((N*zX d.a (nn s.gl) s.R r:Nat):Int)=0:=nJ.2 F;rw[j];clear F j;go_wp2;go_ret;exact⟨⟨lK,rfl,fun _=>am,fun _=>rfl⟩,K⟩
     ·have ap:=hid (O (fun g=>F g.2));(have j:(zQ ((lft d.a s.R r*S:Nat):Int) ((N*zX d.a (nn s.gl) s.R r:Nat):Int) == 0)=lL:=by rw[eg];exact fun g=>F (nJ.1 g));generalize zQ ((lft d.a s.R r*S:Nat):Int) ((N*zX d.a (nn s.gl) s.R r:Nat):Int)=cc2 at j ⊢;clear F;go_wp2;go_roundg (d.kq.length-(r+1));exact⟨r+1,rfl,by omega,by go_num,ap,aq,ar,K⟩;omega
   ·obtain rfl:r=d.kq.length:=by omega
    have aT:Hid (¬ xH d.a (nn s.gl) s.R N S i):=fun g=>by
     rcases g with g|⟨r,h6,h7,h8⟩
     ·exact HC (by rw[aD.out];exact g)
     ·exact hz r h6 ⟨h7,h8⟩
    go_wp2;go_ret;exact⟨⟨lL,rfl,fun g=>(by cases g),fun g=>absurd g aT⟩,hB⟩
theorem Own.kC {T:TypeId}{l:List Int}(h:Own B w v l)(ht:Touch T C w w')(hT:3≠T):Own B w' v l:=ht.own h hT
theorem BLs.kC {T:TypeId}{l:List Bool}(h:BLs B w v l)(ht:Touch T C w w')(hT:4≠T):BLs B w' v l:=ht.own h hT
variable{cap:Nat}
theorem RisM.setHave (h:RisM w d s)(hi:i<s.hl.length)(hr:Row w ao k cap (zA x)):∃vt vg hb n hc vs qo qn qc,Bx w d.pb (d.cells vt vg (kX (lJ ⟨hb,0,lI⟩) n hc) vs qo qn qc) 75/\n=s.hl.length/\hb<w.heap.size/\d.pb<hb/\(∃y,lH w ⟨hb,i,lI⟩=lJ y)/\w.frozen? ⟨hb,i,lI⟩=lL/\Touch 22 d.B1 w (lG w ⟨hb,i,lI⟩ (kX ao k cap))/\RisM (lG w ⟨hb,i,lI⟩ (kX ao k cap)) d {s with hl:=s.hl.set i x}:=by
 obtain⟨⟨vt,vg,T,vs,qo,qn,qc,B,F,r,m,G,H,I⟩,J,K,o,p,q⟩:=h;obtain⟨S,C,rfl⟩:=m.kE;obtain⟨hb,M,R,N,rfl,t,v,A,_⟩:=m.get hi;rw[eC]at v A;obtain⟨hB,D,f⟩:=m.at;have j:Touch 22 d.B1 w (lG w ⟨hb,i,lI⟩ (kX ao k cap)):=Touch.of_set f hB;have l:=I hb _ _ rfl;refine⟨vt,vg,hb,_,C,vs,qo,qn,qc,B,rfl,t,by omega,⟨_,v⟩,A,j,⟨⟨vt,vg,kX (lJ ⟨hb,0,lI⟩) s.hl.length C,vs,qo,qn,qc,j.bx B (by decide),F.kC j (by decide),?_,m.set hi hr,G.kC j (by decide),H.kC j (by decide),?_⟩,J,K,o.setCell (by show d.w0.heap.size<=hb;omega) _,p,q⟩⟩
 ·obtain⟨Q,P,rfl⟩:=r.kE;refine r.jx f (fun a e=>?_);subst e;obtain⟨U,E,_⟩:=r;rcases E.2 with⟨e,_⟩|⟨g,u,z,e,O,_⟩
  ·cases e
  ·cases e;show g≠hb;omega
 ·intro b n c e;cases e;exact l
theorem RisM.setStill (h:RisM w d s)(hi:i<s.sl.length)(x:Bool):∃vt vg vh sb n sc qo qn qc,Bx w d.pb (d.cells vt vg vh (kX (lJ ⟨sb,0,lI⟩) n sc) qo qn qc) 75/\n=s.sl.length/\sb<w.heap.size/\d.pb<sb/\(∃y,lH w ⟨sb,i,lI⟩=lJ y)/\w.frozen? ⟨sb,i,lI⟩=lL/\Touch 4 d.B1 w (lG w ⟨sb,i,lI⟩ (kZ x))/\RisM (lG w ⟨sb,i,lI⟩ (kZ x)) d {s with sl:=s.sl.set i x}:=by
 obtain⟨⟨vt,vg,vh,F,qo,qn,qc,q,u,v,z,c,A,B⟩,C,D,f,j,k⟩:=h;obtain⟨E,sc,rfl⟩:=c.kE;obtain⟨sb,rfl,m,o,p⟩:=c.get hi;rw[eC]at o p;obtain⟨b,a⟩:=c.set i x hi
 have hB:d.B1<=sb:=by
  rcases c.2 with⟨e,_⟩|⟨g,r,t,e,l,_⟩
  ·cases e
  ·cases e;exact l
 exact⟨vt,vg,vh,sb,_,sc,qo,qn,qc,q,rfl,m,by omega,⟨_,o⟩,p,a,⟨⟨vt,vg,vh,_,qo,qn,qc,a.bx q (by decide),u.kC a (by decide),v.kC a (by decide) (by decide),z.kC a (by decide) (by decide),b,A.kC a (by decide),B⟩,C,D,f.setCell (by show d.w0.heap.size<=sb;omega) _,j,k⟩⟩
theorem RisM.setQ (h:RisM w d s)(hr:Row w ao k cap (zA x)):RisM (lG w ⟨d.pb,6,lI⟩ (kX ao k cap)) d {s with q:=x}/\Touch 75 d.pb w (lG w ⟨d.pb,6,lI⟩ (kX ao k cap)):=by
 obtain⟨⟨u,p,r,t,A,z,y,f,g,i,j,l,v,m⟩,n,o,c,b,e⟩:=h;have a:Touch 75 d.pb w (lG w ⟨d.pb,6,lI⟩ (kX ao k cap)):=Touch.of_set f lR;refine⟨⟨⟨u,p,r,t,ao,k,cap,?_,g.kC a (by decide),i.kC a (by decide) (by decide),j.kC a (by decide) (by decide),l.kC a (by decide),hr.kC a (by decide),m⟩,n,o,c.setCell b _,b,e⟩,a⟩;exact j6 f 6 (kX ao k cap)
theorem RisM.setHaveAt (h:RisM w d s)(hi:i<s.hl.length)(hr:Row w ao k cap (zA x)){hb hc:Nat}(e:lH w ⟨d.pb,4,lI⟩=lJ (kX (lJ ⟨hb,0,lI⟩) n hc)):hb<w.heap.size/\d.pb<hb/\(∃y,lH w ⟨hb,i,lI⟩=lJ y)/\w.frozen? ⟨hb,i,lI⟩=lL/\Touch 22 d.B1 w (lG w ⟨hb,i,lI⟩ (kX ao k cap))/\RisM (lG w ⟨hb,i,lI⟩ (kX ao k cap)) d {s with hl:=s.hl.set i x}:=by
 obtain⟨A,v,a,q,c,z,u,t,r,b,_,g,j,l,m,o,p⟩:=h.setHave hi hr;have f:=b.cell 4 _ rfl;rw[f]at e
 cases e
 exact⟨g,j,l,m,o,p⟩
theorem RisM.setStillAt (h:RisM w d s)(hi:i<s.sl.length)(x:Bool){sb:Nat}(e:lH w ⟨d.pb,5,lI⟩=lJ (kX (lJ ⟨sb,0,lI⟩) n sc)):sb<w.heap.size/\d.pb<sb/\(∃y,lH w ⟨sb,i,lI⟩=lJ y)/\w.frozen? ⟨sb,i,lI⟩=lL/\Touch 4 d.B1 w (lG w ⟨sb,i,lI⟩ (kZ x))/\RisM (lG w ⟨sb,i,lI⟩ (kZ x)) d {s with sl:=s.sl.set i x}:=by
 obtain⟨z,u,v,b,p,c,t,r,q,a,_,g,j,k,l,m,o⟩:=h.setStill hi x;have f:=a.cell 5 _ rfl;rw[f]at e
 cases e
 exact⟨g,j,k,l,m,o⟩
theorem lT {b o:Nat}{u:lN}(h:g≠b):(lG w ⟨b,o,lI⟩ u).cell? ⟨g,i,lI⟩=lH w ⟨g,i,lI⟩:=iw (eT w _ u g h)
theorem BL {s':RV}{kd:Bool}{l:List Nat}(hx:yF d.a (nn s.gl) s.R=(N,S,kd))(hl:∀j,j∈l↔j<d.us.length/\bn s.sl j=lK/\xH d.a (nn s.gl) s.R N S j)(hq:s'.q=if kd then s.q*S else s.q)(hs:∀j,j<d.us.length->bn s'.sl j=if j∈l then lL else bn s.sl j)(hv:∀j,j<d.us.length->nn s'.hl j=if j∈l then(if kd then N*nn s.gl j else d.a.C j*s'.q)else if kd then nn s.hl j*S else nn s.hl j):TurnT d.a (nn s.gl) s.R s'.R:=by
 refine⟨fun i hi=>?_,?_,fun i hi h1 c=>?_,fun i hi h1=>?_⟩
 ·rw[hx];show bn s'.sl i=lK↔bn s.sl i=lK/\_;rw[hs i hi];by_cases h:i∈l
  ·rw[ed h];have c:=(hl i).1 h;simp only[ev,false_iff];exact fun b=>b.2 c.2.2
  ·rw[ec h];constructor
   ·intro b;exact⟨b,fun h6=>h ((hl i).2 ⟨hi,b,h6⟩)⟩
   ·exact fun b=>b.1
 ·rw[hx];exact hq
 ·rw[hx]at c ⊢;show nn s'.hl i=_;rw[hv i hi,ed ((hl i).2 ⟨hi,h1,c⟩)];rfl
 ·rw[hx]at h1 ⊢;show nn s'.hl i=_;rw[hv i hi,ec (fun b=>h1 ((hl i).1 b).2)];rfl
theorem Iv (hg:Good us pool.length)(hpa:∀i,yG (lm pool i)=lK)(hi:i<us.length)(hm:m<pool.length)(hd:0<lm (ug us i).dem m)(hp:0<lm pool m)(hw:∀r,r<pool.length->lm (ug us i).dem r≠0->0<lm pool r)(hb:∀r,r<pool.length->lm (ug us i).dem r*lm pool m<=lm (ug us i).dem m*lm pool r):ye pool us pool.length i*((lm (ug us i).dem m:Int):Rat)=(((ug us i).wt:Int):Rat)*((lm pool m:Int):Rat):=by
 have f:=nw hg hpa;obtain⟨r,n,d,l⟩:=f.eq i hi;have o:=f.le i m hi hm (mz.2 hd);have s:=mz.1 d;have k:=hw r n (by omega);have p:=hb r n;(have q:((lm (ug us i).dem r:Int):Rat)*((lm pool m:Int):Rat)<=((lm (ug us i).dem m:Int):Rat)*((lm pool r:Int):Rat):=by rw[<-Rat.intCast_mul,<-Rat.intCast_mul];exact nG.2 p);have h:=f.pos i hi;refine Rat.le_antisymm o ?_;change ye pool us pool.length i*((lm (ug us i).dem r:Int):Rat)=(((ug us i).wt:Int):Rat)*((lm pool r:Int):Rat)at l;have j:=mz.2 k;refine mi (c:=((lm pool r:Int):Rat)) ?_ j;have u:=lX q h;generalize ye pool us pool.length i=g at *;generalize((lm (ug us i).dem r:Int):Rat)=a at *;generalize((lm (ug us i).dem m:Int):Rat)=b at *;generalize((lm pool r:Int):Rat)=c at *;generalize((lm pool m:Int):Rat)=e at *;generalize(((ug us i).wt:Int):Rat)=v at *;have t:g*(a*e)=v*c*e:=by rw[<-Rat.mul_assoc,l]
 grind
def xT (d:FD)(s:St)(r i:Nat):Prop:=0<lm (ug d.us i).dem r/\upB d s.ts r=lK/\yt d s.lv i r d.n=lK
def hB (d:FD)(s:St)(r i:Nat):Bool:=decide (0<lm (ug d.us i).dem r)&&upB d s.ts r&&yt d s.lv i r d.n
theorem uI {d:FD}(ho:d.Of pool us)(f:Nat->Rat)(r:Nat):upB d f r=decide (zK us f r us.length=((lm pool r:Int):Rat)):=by
 unfold upB;rw[ho.us,ho.n,ho.kw];rfl
theorem rk {d:FD}:∀m,yt d lv i r m=lK↔∀j,j<m->0<lm (ug d.us j).dem r->lv j<=lv i:=by
 intro m
 induction m with
 |zero=>simp[yt]
 | succ m ih=>
  simp only[yt,eJ,Bool.not_eq_true',Bool.and_eq_false_iff,eL];rw[ih];constructor
  ·rintro⟨c,a⟩ j f b;by_cases e:j=m
   ·subst e;rcases a with a|a
    ·exact absurd b a
    ·exact Rat.not_lt.1 a
   ·exact c j (by omega) b
  ·intro h;refine⟨fun j f=>h j (by omega),?_⟩;by_cases b:0<lm (ug d.us m).dem r
   ·right;exact Rat.not_lt.2 (h m (by omega) b)
   ·left;exact b
theorem Ap {d:FD}(ho:d.Of pool us)(hg:Good us pool.length)(hpa:∀i,yG (lm pool i)=lK)(hi:i<us.length)(hc:(yB pool us).ts i≠(((ug us i).cap:Int):Rat)):∃r,r<pool.length/\xT d (yB pool us) r i:=by
 obtain⟨k,c⟩:=rx hg hpa;rcases k.stop i hi with h|⟨r,l,e,f,g⟩
 ·exact absurd h hc
 ·refine⟨r,l,?_,?_,?_⟩
  ·rw[ho.us];exact mz.1 e
  ·unfold upB;rw[eN,qg ho,ho.kw];exact f
  ·rw[rk];intro j a b;rw[ho.n]at a;rw[ho.us]at b;rw[c j a,c i hi];exact g j a (mz.2 b)
theorem AB {d:FD}{s:St}(h:s.ts i=(((ug d.us i).cap:Int):Rat)):yb d s i = -1:=by
 unfold yb capB;rw[ei h];rfl
theorem Ej {d:FD}{s:St}:∀(r m k:Nat),(∀j,k<=j->j<k+r->¬ xT d s j i)->yj d s i k (r+m)=yj d s i (k+r) m:=by
 intro r
 induction r with
 |zero=>intro m k _;simp
 |succ r ih=>intro m k h;(have e:r+1+m=(r+m)+1:=by omega);rw[e,rh (h k lR (by omega)),ih m (k+1) (fun j h1 h2=>h j (by omega) (by omega))];congr 1;omega
theorem Bi {d:FD}{s:St}(hc:s.ts i≠(((ug d.us i).cap:Int):Rat))(hr:r<d.kk)(hno:∀j,j<r->¬ xT d s j i)(h:xT d s r i):yb d s i=(r:Int):=by
 unfold yb capB;rw[ee hc,ec (by simp)];obtain⟨m,a⟩:∃m,d.kk=r+(m+1):=⟨d.kk-r-1,by omega⟩;rw[a,Ej r (m+1) 0 (fun j _ h2=>hno j (by omega)),eC];exact wh h.1 h.2.1 h.2.2
end Go.Proofs.YtigokanoflkinaaGreatDoor
