/- WIE, FFill, FBool, WRate, WStp, joined. -/
import Derived.Test.YtigokanoflkinaaGreatDoorZB
import Derived.Deep.DeepCutAuto
set_option maxHeartbeats 2000000
set_option maxRecDepth 20000
namespace Go.Proofs.YtigokanoflkinaaGreatDoor
set_option linter.unusedSimpArgs false
set_option linter.unusedVariables false
open Go.RowKit Por Go.Proofs.Tryz
open Value renaming int->kW,slice->kX,pointer->kY,bool->kZ,agg->lA,tuple->lB
open IntKind renaming i64->lD
open Obj renaming cells->lE
open Ending renaming returned->lF
open World renaming cell?->lH,setCell->lG
open Option renaming none->lI,some->lJ
open Bool renaming true->lK,false->lL
open Go renaming World->lM,Value->lN
abbrev dm (us:List Usr)(i r:Nat):Rat:=((lm (ug us i).dem r:Int):Rat)
def zK (us:List Usr)(f:Nat->Rat)(r:Nat):Nat->Rat:=fun m=>zZ (fun i=>f i*dm us i r) m
theorem Sm.zero5:Sm ((0:Int):Rat) 5:=Sm.int (by decide) (by decide)
variable{us:List Usr}{k L n:Nat}
theorem pG {f:Nat->Rat}(hg:Good us k)(hn:n<=us.length)(hs:∀i,i<n->Sm (f i) L)(r:Nat):∀m,m<=n->Sm (zK us f r m) (5+m*(L+3)):=by
 intro m
 induction m with
 |zero=>intro _;exact Sm.zero5.mono (by omega)
 |succ m ih=>intro d;have a:=ih (by omega);have b:=(hs m (by omega)).mul (Sm.amt (hg.dem (i:=m) (by omega) r));have c:=a.add b;refine c.mono ?_;rw[Nat.add_mul];omega
variable{ao:Option Addr}{cap kk:Nat}{w:lM}
theorem tw {vo:Option Addr}{cap2 r:Nat}{f:Nat->Rat}(hu:Users w ao n cap us)(hg:Good us kk)(hf:Frs w vo n cap2 f)(hs:∀i,i<n->Sm (f i) L)(hr:r<kk)(hkk:kk<=4)(hL:5+n*(L+3)<=10000)(ht:Tab w):Calls prog 100 #[kX ao n cap,kX vo n cap2,kW lD r] w fun e w'=>∃v,e=lF v/\Frac w' v (zK us f r n)/\Below w.heap.size w w':=by
 have bt:=hf.le;unfold maxLen at bt;have bW:=hu.1;have W:=brw w;have aS:=i1 w #[kZ lL,kX lI 0 0,kX lI 0 0] 90;have X:=W.alloc W.size (lE #[kZ lL,kX lI 0 0,kX lI 0 0] 90);have b0:=W.size;go_enter func100,ntmps100;go_wp2_with fail;refine(mx (by omega) (by omega) _ (ht.of X)).mono ?_;rintro e1 w1 ⟨v1,rfl,⟨ja,jb,jc,jd,je,jf,rfl,a3,a4⟩,a0⟩;have ax:=aS.ji a0;have Y:=et X a0;clear a0;have aW:=(show Sm (((0:Int):Rat)) 5 from Sm.zero5);have bv:=a3.sm1 aW;have bw:=a4.sm2 aW;have bC:=ax.lt;have aT:=i7 ax (lE #[kZ (negB ((0:Int):Rat)),kX ja jb jc,kX jd je jf] 90);have aU:=i1 w1 #[kZ (negB ((0:Int):Rat)),kX ja jb jc,kX jd je jf] 90;have ar:=a3.alloc (lE #[kZ (negB ((0:Int):Rat)),kX ja jb jc,kX jd je jf] 90);have aw:=a4.alloc (lE #[kZ (negB ((0:Int):Rat)),kX ja jb jc,kX jd je jf] 90);have aR:=Y.alloc Y.size (lE #[kZ (negB ((0:Int):Rat)),kX ja jb jc,kX jd je jf] 90);have b1:=Y.size;go_wp2
 go_loopg[15] n (fun g i wr=>∃(k:Nat) (sa:Option Addr) (sb sc:Nat) (sd:Option Addr) (se sf:Nat),g=n-k/\k<=n/\i=kW lD k/\Bx wr w.heap.size #[kZ lL,kX lI 0 0,kX lI 0 0] 90/\Bx wr w1.heap.size #[kZ (negB (zK us f r k)),kX sa sb sc,kX sd se sf] 90/\Row wr sa sb sc (zA (zK us f r k).num.natAbs)/\Row wr sd se sf (zA (zK us f r k).den)/\Bl w wr)
 case atStart=>exact⟨0,ja,jb,jc,jd,je,jf,rfl,ep _,rfl,aT,aU,ar,aw,aR⟩
 case round=>
  obtain⟨k,sa,sb,sc,sd,se,sf,bV,hk,rfl,hX,hY,aN,aO,hB⟩:=hrel;have SK:=pG hg (by omega) hs r k hk;by_cases aH:k<n
  ·have ST:=SK;have b6:=aN.sm1 ST;have b7:=aO.sm2 ST;have bA:=eh (Nat.add_le_add_left (hI _ hk) _) hL;(have bQ:L+8<=10000:=by have:=hI (L+3) (show 1<=n by omega);omega);have bD:=hY.lt;have bB:=hX.lt;obtain⟨b,o,M,dn,A,rfl,bR,c0,c1,c2,hd⟩:=(hu.iP hB).get aH;have bs:=hd.len;rw[j9,hg.len (i:=k) (by omega)]at bs;(have bU:(r:Int)<(dn:Int):=by omega);have bT:=JH (hg.dem (i:=k) (by omega) r);have SD:=Sm.amt (hg.dem (i:=k) (by omega) r);obtain⟨t,S,rfl,bS⟩:=hd.head (by omega);have cd:=hd.int rfl (i:=r) (by omega);(have bz:t<wr.heap.size+1:=by omega);have aE:=i1 wr #[kX (lJ ⟨t,S,lI⟩) dn A,kW lD (ug us k).wt,kW lD (ug us k).cap] 56;have E:=hB.alloc hB.size (lE #[kX (lJ ⟨t,S,lI⟩) dn A,kW lD (ug us k).wt,kW lD (ug us k).cap] 56);have b3:=hB.size;go_wp2_with fail;refine(mx (by omega) (by omega) _ (ht.of E)).mono ?_;rintro bO c ⟨ce,rfl,⟨M,t,A,N,O,P,rfl,a1,a2⟩,B⟩;have A0:=eb B;have az:=hX.ji A0;have aD:=hY.ji A0;have aF:=aE.ji B;have ah:=aN.iP A0;have ak:=aO.iP A0;have F:=et E B;clear B;have bc:=(show Sm (dm us k r) 2 from SD);have bX:=a1.sm1 bc;have bY:=a2.sm2 bc;clear c0 c1 c2 cd;have I:=i7 az (lE #[kZ (negB (dm us k r)),kX M t A,kX N O P] 90);have J:=i7 aD (lE #[kZ (negB (dm us k r)),kX M t A,kX N O P] 90);have aG:=i7 aF (lE #[kZ (negB (dm us k r)),kX M t A,kX N O P] 90);have s:=i1 c #[kZ (negB (dm us k r)),kX M t A,kX N O P] 90;have y:=ah.alloc (lE #[kZ (negB (dm us k r)),kX M t A,kX N O P] 90);have z:=ak.alloc (lE #[kZ (negB (dm us k r)),kX M t A,kX N O P] 90);have ab:=a1.alloc (lE #[kZ (negB (dm us k r)),kX M t A,kX N O P] 90);have ad:=a2.alloc (lE #[kZ (negB (dm us k r)),kX M t A,kX N O P] 90);have d:=F.alloc F.size (lE #[kZ (negB (dm us k r)),kX M t A,kX N O P] 90);have bZ:=F.size;go_wp2_with fail;generalize c.alloc (lE #[kZ (negB (dm us k r)),kX M t A,kX N O P] 90)=V at I J aG s y z ab ad d ⊢;obtain⟨R,T,ua,ub,uc,ud,ue,uf,rfl,C,c0,c1,c2,a7,a8⟩:=(hf.iP d).get aH;have cb:=a7.sm1 (hs k aH);have cc:=a8.sm2 (hs k aH);obtain⟨D,m0,m1,m2⟩:=s.q3 rfl;have SK:=fun U (h:Bl V U)=>(⟨qs h c0 C,qs h c1 C,qs h c2 C,qs h m0 D,qs h m1 D,qs h m2 D⟩:_/\_/\_/\_/\_/\_);have KC:∀U,Bl V U->Calls prog 53 #[lA #[kZ (negB (f k)),kX ua ub uc,kX ud ue uf],lA #[kZ (negB (dm us k r)),kX M t A,kX N O P]] U (fun e w'=>∃v,e=lF v/\Frac w' v (f k*dm us k r)/\Bl V w'/\Bl U w'):=fun U hU=>(tP (a7.iP hU) (a8.iP hU) (ab.iP hU) (ad.iP hU) (by omega) (by omega) (by omega) (by omega)).mono (fun e w' ⟨v,h1,h2,h3⟩=>⟨v,h1,h2,hU.trans (h3.mono hU.size),h3⟩)
   go_cut[11,15] (fun pp y0 wx=>∃(PB:Nat) (pa:Option Addr) (pb pc:Nat) (pd:Option Addr) (pe pf:Nat),pp=kY (lJ ⟨PB,0,lI⟩)/\kW lD (k:Nat)=y0/\Bx wx w.heap.size #[kZ lL,kX lI 0 0,kX lI 0 0] 90/\Bx wx w1.heap.size #[kZ (negB (zK us f r k)),kX sa sb sc,kX sd se sf] 90/\Row wx sa sb sc (zA (zK us f r k).num.natAbs)/\Row wx sd se sf (zA (zK us f r k).den)/\Bx wx PB #[kZ (negB (f k*dm us k r)),kX pa pb pc,kX pd pe pf] 90/\Row wx pa pb pc (zA (f k*dm us k r).num.natAbs)/\Row wx pd pe pf (zA (f k*dm us k r).den)/\Bl w wx/\V.heap.size<=PB)
   (case first=>obtain⟨bI,bJ,bK,bL,bM,bN⟩:=SK _ (brw V).drew;go_region_held3 (fun w'=>lH w' ⟨R,T+k*3,lI⟩=lJ (kZ (negB (f k)))/\lH w' ⟨R,T+k*3+1,lI⟩=lJ (kX ua ub uc)/\lH w' ⟨R,T+k*3+2,lI⟩=lJ (kX ud ue uf)/\lH w' ⟨c.heap.size,0,lI⟩=lJ (kZ (negB (dm us k r)))/\lH w' ⟨c.heap.size,1,lI⟩=lJ (kX M t A)/\lH w' ⟨c.heap.size,2,lI⟩=lJ (kX N O P)) (first|exact SK _ brf.drew|exact SK _ (brf.alloc lR _).drew|exact SK _ m|exact SK _ (m.alloc m.size _)|exact SK _ (j8 m lR _ _ _)) (first|(go_at_call 53;refine(KC _ ?hU).mono ?_;(case hU=>first|exact brf.drew|exact(brf.alloc lR _).drew);rintro e7 w7 ⟨v7,rfl,⟨pa,pb,pc,pd,pe,pf,rfl,bh,bi⟩,m,aP⟩;try (have K:=(i1 V #[kZ lL,kX lI 0 0,kX lI 0 0] 90).drew.ji aP;obtain⟨xl,cj,cg,ck,ch,cl,ci⟩:=K.w3 rfl)));(all_goals (go_wp2_with fail;go_meet));all_goals (first|exact⟨w7.heap.size,pa,pb,pc,pd,pe,pf,rfl,rfl,i7 (I.ji m) _,i7 (J.ji m) _,(y.iP m).alloc _,(z.iP m).alloc _,i1 w7 _ _,bh.alloc _,bi.alloc _,(et d m).alloc (eh d.size m.size) _,m.size⟩|exact⟨V.heap.size,pa,pb,pc,pd,pe,pf,rfl,rfl,I.ji (j8 m lR _ _ _),J.ji (j8 m lR _ _ _),y.iP (j8 m lR _ _ _),z.iP (j8 m lR _ _ _),Bx.jM ((i1 V #[kZ lL,kX lI 0 0,kX lI 0 0] 90).drew.ji aP) _ _ _,bh.jM ((i1 V #[kZ lL,kX lI 0 0,kX lI 0 0] 90).drew.ji aP) (by decide) _ _ _,bi.jM ((i1 V #[kZ lL,kX lI 0 0,kX lI 0 0] 90).drew.ji aP) (by decide) _ _ _,j8 (et d m) d.size _ _ _,lR⟩));case rest=>obtain⟨bE,pa,pb,pc,pd,pe,pf,rfl,rfl,aA,j,G,H,l,u,x,Q,bu⟩:=hcut;have aX:=(show Sm (f k*dm us k r) (L+2)from(hs k aH).mul SD);have b4:=u.sm1 aX;have b5:=x.sm2 aX;obtain⟨aQ,aK,a9,aL,ba,aM,bb⟩:=j.w3 rfl;obtain⟨bj,be,bf,bg⟩:=l.q3 rfl;go_wp2_with fail;refine(pr G H u x (by omega) (by omega) (by omega) (by omega)).mono ?_;rintro bP bx ⟨cf,rfl,⟨ta,tb,tc,td,te,tf,rfl,a5,a6⟩,q⟩;have aB:=aA.ji q;have a:=j.ji q;have ap:=et Q q;clear q;have bd:=(show Sm ((zK us f r k)+f k*dm us k r) (5+k*(L+3)+(L+2)+1)from ST.add aX);have b8:=a5.sm1 bd;have b9:=a6.sm2 bd;obtain⟨aQ,aK,a9,aL,ba,aM,bb⟩:=a.w3 rfl;go_wp2;go_roundg (n-(k+1));(case measure=>omega);case rel=>have aY:=aB.put3_other (b:=w1.heap.size) (kZ (negB ((zK us f r k)+f k*dm us k r))) (kX ta tb tc) (kX td te tf) (by omega);have aI:=a5.jM a (by decide) (kZ (negB ((zK us f r k)+f k*dm us k r))) (kX ta tb tc) (kX td te tf);have aJ:=a6.jM a (by decide) (kZ (negB ((zK us f r k)+f k*dm us k r))) (kX ta tb tc) (kX td te tf);have aV:=j8 ap (by omega:w.heap.size<=w1.heap.size) (kZ (negB ((zK us f r k)+f k*dm us k r))) (kX ta tb tc) (kX td te tf);have aZ:=a.jM (kZ (negB ((zK us f r k)+f k*dm us k r))) (kX ta tb tc) (kX td te tf);exact⟨k+1,ta,tb,tc,td,te,tf,rfl,by omega,by go_num,aY,aZ,aI,aJ,aV⟩
  ·(obtain rfl:k=n:=by omega);obtain⟨ca,bF,cm,bG,cn,bH,co⟩:=hX.w3 rfl;obtain⟨aQ,aK,aL,aM⟩:=hY.q3 rfl;go_wp2;have Z:=hX.jM (kZ (negB (zK us f r k))) (kX sa sb sc) (kX sd se sf);obtain⟨z0,z1,z2⟩:=Z.c3 rfl;unfold zy at z0 z1 z2;exact eG (v:=lA #[kZ (negB (zK us f r k)),kX sa sb sc,kX sd se sf]) (by simp[results,results100,go_sem,z0,z1,z2]) rfl ⟨_,rfl,⟨sa,sb,sc,sd,se,sf,rfl,aN.jM hX (by decide) _ _ _,aO.jM hX (by decide) _ _ _⟩,j8 hB lR _ _ _⟩
def enL (f:Nat->Rat)(dem:List Int):Nat->List Rat
  |0=>[]
  |k+1=>if lm dem k=0 then enL f dem k else enL f dem k++[f k/((lm dem k:Int):Rat)]
theorem IX (f:Nat->Rat)(dem:List Int)(k:Nat):(enL f dem k).length<=k:=by
 induction k with
 |zero=>exact lR
 |succ k ih=>
  simp only[enL];split
  ·omega
  ·rw[eK,iZ];omega
variable{base:Nat}{v:lN}{l:List Rat}
theorem FO.lt (h:FO base w v l):∀g,v.ownBlock=lJ g->g<w.heap.size:=by
 obtain⟨b,a,_⟩:=h;exact fun g hg=>(a.lt g hg).2
variable{b:Nat}
theorem FO.jM (h:FO base w v l){x0 x1 x2:lN}{T:TypeId}(hx:Bx w b #[x0,x1,x2] T)(hT:T≠3)(hne:∀g,v.ownBlock=lJ g->b≠g)(u0 u1 u2:lN):FO base (zy w b u0 u1 u2) v l:=by
 obtain⟨z,⟨q,d⟩,r⟩:=h;refine⟨z,⟨q,?_⟩,fun i hi=>?_⟩
 ·rcases d with d|⟨g,a,c,rfl,n,o,p⟩
  ·exact .inl d
  ·refine .inr ⟨g,a,c,rfl,n,?_,p⟩;have f:=hne g rfl;unfold zy;rw[iR _ _ g _ (fun e=>f e.symm),iR _ _ g _ (fun e=>f e.symm),iR _ _ g _ (fun e=>f e.symm)];exact o
 ·obtain⟨y,x,u,C,B,A,j,k,m,s,t⟩:=r i hi;exact⟨y,x,u,C,B,A,j,k,m,s.jM hx hT _ _ _,t.jM hx hT _ _ _⟩
theorem qI {n:Int}(h:n≠0):((n:Int):Rat)≠0:=by
 intro e;have a:(n:Rat).num=n:=jq n;rw[e]at a;exact h a.symm
variable{ro da:Option Addr}{rn rc dn dc:Nat}{u:Usr}
theorem EE {f:Nat->Rat}(hf:Frs w ro rn rc f)(hs:∀i,i<rn->Sm (f i) L)(hL:L<=9000)(hd:Arr w 1 da dn dc (zi u.dem))(hda:∀i,yG (lm u.dem i)=lK)(hrn:dn<=rn)(hdn:dn<=1000)(ht:Tab w):Calls prog 97 #[kX ro rn rc,lA #[kX da dn dc,kW lD u.wt,kW lD u.cap]] w fun e w'=>∃v,e=lF v/\FO w.heap.size w' v (enL f u.dem dn)/\Below w.heap.size w w':=by
 have aG:=hf.le;unfold maxLen at aG;have aD:=hd.len;rw[j9]at aD;have aE:=eh hd.le hd.cm;unfold maxLen at aE;have I:=brw w;have ab:=I.alloc I.size (lE #[kX da dn dc,kW lD u.wt,kW lD u.cap] 56);have a2:=I.size;clear I;go_enter func97,ntmps97;go_wp2
 go_loopg[5,14] dn (fun g s5 i wr=>∃(k:Nat) (v5:lN),v5=s5/\g=dn-k/\k<=dn/\i=kW lD k/\Hid (FO w.heap.size wr v5 (enL f u.dem k))/\Hid (Bl w wr))
 case atStart=>exact⟨0,_,rfl,rfl,ep _,rfl,FO.nil _ _,ab⟩
 case round=>
  obtain⟨k,v5,rfl,aW,hk,rfl,hO,hB⟩:=hrel;clear ab;have aX:=IX f u.dem k;have aU:=hB.size;by_cases aF:k<dn
  ·obtain⟨b,o,rfl,aV⟩:=hd.head (by omega);have c0:=(hd.iP hB).int rfl aF;have aY:=JH (hda k);have SP:=Sm.amt (hda k);go_wp2_with fail;refine(mx (by omega) (by omega) _ (ht.of hB)).mono ?_;rintro aT a ⟨a7,rfl,⟨da,B,dc,C,D,F,rfl,ac,ad⟩,Q⟩;have P:=hO.iP Q;have y:=et hB Q;clear hO hB;clear Q;have ak:=(show Sm (((lm u.dem k:Int):Rat)) 2 from SP);have aZ:=ac.sm1 ak;have a0:=ad.sm2 ak;clear c0;have q:=i1 a #[kZ (negB ((lm u.dem k:Int):Rat)),kX da B dc,kX C D F] 90;have n:=hid (P.alloc (lE #[kZ (negB ((lm u.dem k:Int):Rat)),kX da B dc,kX C D F] 90));have z:=ac.alloc (lE #[kZ (negB ((lm u.dem k:Int):Rat)),kX da B dc,kX C D F] 90);have A:=ad.alloc (lE #[kZ (negB ((lm u.dem k:Int):Rat)),kX da B dc,kX C D F] 90);have c:=hid (y.alloc y.size (lE #[kZ (negB ((lm u.dem k:Int):Rat)),kX da B dc,kX C D F] 90));have a1:=y.size;clear P y;go_wp2_with fail;generalize a.alloc (lE #[kZ (negB ((lm u.dem k:Int):Rat)),kX da B dc,kX C D F] 90)=V at q n z A c ⊢;obtain⟨r,s,Z,ub,uc,ud,ue,uf,rfl,j,c0,c1,c2,ae,af⟩:=(hf.iP c).get (i:=k) (by omega);have a5:=ae.sm1 (hs k (by omega));have a6:=af.sm2 (hs k (by omega));(have aR:(k:Int)<(rn:Int):=by omega);obtain⟨l,m0,m1,m2⟩:=q.q3 rfl;by_cases hz:lm u.dem k=0
   ·(have R:isZ ((lm u.dem k:Int):Rat).num.natAbs=lK:=by rw[hz];rfl);have aa:=hid R;have HZ:=hid hz;clear hz R;(have O:Hid (∀U,Bl V U->lH U ⟨r,s+k*3,lI⟩=lJ (kZ (negB (f k)))/\lH U ⟨r,s+k*3+1,lI⟩=lJ (kX Z ub uc)/\lH U ⟨r,s+k*3+2,lI⟩=lJ (kX ud ue uf)/\lH U ⟨a.heap.size,0,lI⟩=lJ (kZ (negB ((lm u.dem k:Int):Rat)))/\lH U ⟨a.heap.size,1,lI⟩=lJ (kX da B dc)/\lH U ⟨a.heap.size,2,lI⟩=lJ (kX C D F)):=fun U h=>⟨qs h c0 j,qs h c1 j,qs h c2 j,qs h m0 l,qs h m1 l,qs h m2 l⟩);have KC:Hid (∀U,Bl V U->Calls prog 99 #[lA #[kZ (negB (f k)),kX Z ub uc,kX ud ue uf],lA #[kZ (negB ((lm u.dem k:Int):Rat)),kX da B dc,kX C D F]] U (fun e w'=>e=lF (lB #[lA #[kZ lL,kX lI 0 0,kX lI 0 0],kZ lL])/\Bl V w'/\Bl U w')):=fun U hU=>(uz (ae.iP hU) (af.iP hU) (z.iP hU) (A.iP hU) (by omega) (by omega) (by omega) (by omega) aa).mono (fun e w' ⟨h1,h3⟩=>⟨h1,hU.trans (h3.mono hU.size),h3⟩)
    go_cut[9,14,5,10] (fun pp y0 y1 y2 wx=>∃(PB:Nat),pp=kY (lJ ⟨PB,0,lI⟩)/\kW lD (k:Nat)=y0/\v5=y1/\kZ lL=y2/\Hid (FO w.heap.size wx v5 (enL f u.dem k))/\Hid (Bx wx PB #[kZ lL,kX lI 0 0,kX lI 0 0] 90)/\Hid (Bl w wx)/\V.heap.size<=PB)
    (case first=>obtain⟨ax,ay,az,aA,aB,aC⟩:=O _ (brw V).drew;go_region_held3 (fun w'=>lH w' ⟨r,s+k*3,lI⟩=lJ (kZ (negB (f k)))/\lH w' ⟨r,s+k*3+1,lI⟩=lJ (kX Z ub uc)/\lH w' ⟨r,s+k*3+2,lI⟩=lJ (kX ud ue uf)/\lH w' ⟨a.heap.size,0,lI⟩=lJ (kZ (negB ((lm u.dem k:Int):Rat)))/\lH w' ⟨a.heap.size,1,lI⟩=lJ (kX da B dc)/\lH w' ⟨a.heap.size,2,lI⟩=lJ (kX C D F)) (first|exact O _ brf.drew|exact O _ (brf.alloc lR _).drew|exact O _ d|exact O _ (d.alloc d.size _)|exact O _ (j8 d lR _ _ _)) (first|(go_at_call 99;refine(KC _ ?hU).mono ?_;(case hU=>first|exact brf.drew|exact(brf.alloc lR _).drew);rintro e7 w7 ⟨rfl,d,H⟩;try (have m:=(i1 V #[kZ lL,kX lI 0 0,kX lI 0 0] 90).drew.ji H;obtain⟨xl,aL,aI,aM,aJ,aN,aK⟩:=m.w3 rfl;clear m)));(all_goals (go_wp2_with fail;go_meet));all_goals (first|exact⟨w7.heap.size,rfl,rfl,rfl,rfl,(n.iP d).alloc _,i1 w7 _ _,(et c d).alloc (eh c.size d.size) _,d.size⟩|exact⟨V.heap.size,rfl,rfl,rfl,rfl,n.iP (j8 d lR _ _ _),Bx.jM ((i1 V #[kZ lL,kX lI 0 0,kX lI 0 0] 90).drew.ji H) _ _ _,j8 (et c d) c.size _ _ _,lR⟩));case rest=>obtain⟨aw,rfl,rfl,rfl,rfl,G,t,x,ag⟩:=hcut;clear O KC q n c;(have E:enL f u.dem (k+1)=enL f u.dem k:=by simp only[enL];rw[ed HZ.out]);have HE:=hid E;clear E;go_wp2;go_roundg (dn-(k+1));exact⟨k+1,_,rfl,rfl,by omega,by go_num,by rw[HE.out];exact G,x⟩;omega
   ·have R:=qI hz;have aa:=hid R;have HZ:=hid hz;clear hz R;(have O:Hid (∀U,Bl V U->lH U ⟨r,s+k*3,lI⟩=lJ (kZ (negB (f k)))/\lH U ⟨r,s+k*3+1,lI⟩=lJ (kX Z ub uc)/\lH U ⟨r,s+k*3+2,lI⟩=lJ (kX ud ue uf)/\lH U ⟨a.heap.size,0,lI⟩=lJ (kZ (negB ((lm u.dem k:Int):Rat)))/\lH U ⟨a.heap.size,1,lI⟩=lJ (kX da B dc)/\lH U ⟨a.heap.size,2,lI⟩=lJ (kX C D F)):=fun U h=>⟨qs h c0 j,qs h c1 j,qs h c2 j,qs h m0 l,qs h m1 l,qs h m2 l⟩);have KC:Hid (∀U,Bl V U->Calls prog 99 #[lA #[kZ (negB (f k)),kX Z ub uc,kX ud ue uf],lA #[kZ (negB ((lm u.dem k:Int):Rat)),kX da B dc,kX C D F]] U (fun e w'=>∃v,e=lF (lB #[v,kZ lK])/\Frac w' v (f k/((lm u.dem k:Int):Rat))/\Bl V w'/\Bl U w')):=fun U hU=>(tU (ae.iP hU) (af.iP hU) (z.iP hU) (A.iP hU) (by omega) (by omega) (by omega) (by omega) aa).mono (fun e w' ⟨v,h1,h2,h3⟩=>⟨v,h1,h2,hU.trans (h3.mono hU.size),h3⟩)
    go_cut[9,14,5,10] (fun pp y0 y1 y2 wx=>∃(PB:Nat) (S:Option Addr) (T pc:Nat) (W:Option Addr) (X Y:Nat),pp=kY (lJ ⟨PB,0,lI⟩)/\kW lD (k:Nat)=y0/\v5=y1/\kZ lK=y2/\Hid (FO w.heap.size wx v5 (enL f u.dem k))/\Hid (Bx wx PB #[kZ (negB (f k/((lm u.dem k:Int):Rat))),kX S T pc,kX W X Y] 90)/\Hid (Row wx S T pc (zA (f k/((lm u.dem k:Int):Rat)).num.natAbs))/\Hid (Row wx W X Y (zA (f k/((lm u.dem k:Int):Rat)).den))/\Hid (Bl w wx)/\V.heap.size<=PB)
    case first=>obtain⟨ax,ay,az,aA,aB,aC⟩:=O _ (brw V).drew;go_region_held3 (fun w'=>lH w' ⟨r,s+k*3,lI⟩=lJ (kZ (negB (f k)))/\lH w' ⟨r,s+k*3+1,lI⟩=lJ (kX Z ub uc)/\lH w' ⟨r,s+k*3+2,lI⟩=lJ (kX ud ue uf)/\lH w' ⟨a.heap.size,0,lI⟩=lJ (kZ (negB ((lm u.dem k:Int):Rat)))/\lH w' ⟨a.heap.size,1,lI⟩=lJ (kX da B dc)/\lH w' ⟨a.heap.size,2,lI⟩=lJ (kX C D F)) (first|exact O _ brf.drew|exact O _ (brf.alloc lR _).drew|exact O _ d|exact O _ (d.alloc d.size _)|exact O _ (j8 d lR _ _ _)) (first|(go_at_call 99;refine(KC _ ?hU).mono ?_;(case hU=>first|exact brf.drew|exact(brf.alloc lR _).drew);rintro e7 w7 ⟨v7,rfl,⟨S,T,pc,W,X,Y,rfl,ap,aq⟩,d,H⟩;try (have m:=(i1 V #[kZ lL,kX lI 0 0,kX lI 0 0] 90).drew.ji H;obtain⟨xl,aL,aI,aM,aJ,aN,aK⟩:=m.w3 rfl;clear m)));(all_goals (go_wp2_with fail;go_meet));all_goals (first|exact⟨w7.heap.size,S,T,pc,W,X,Y,rfl,rfl,rfl,rfl,(n.iP d).alloc _,i1 w7 _ _,ap.alloc _,aq.alloc _,(et c d).alloc (eh c.size d.size) _,d.size⟩|exact⟨V.heap.size,S,T,pc,W,X,Y,rfl,rfl,rfl,rfl,n.iP (j8 d lR _ _ _),Bx.jM ((i1 V #[kZ lL,kX lI 0 0,kX lI 0 0] 90).drew.ji H) _ _ _,ap.jM ((i1 V #[kZ lL,kX lI 0 0,kX lI 0 0] 90).drew.ji H) (by decide) _ _ _,aq.jM ((i1 V #[kZ lL,kX lI 0 0,kX lI 0 0] 90).drew.ji H) (by decide) _ _ _,j8 (et c d) c.size _ _ _,lR⟩)
    case rest=>
     obtain⟨aw,S,T,pc,W,X,Y,rfl,rfl,rfl,rfl,G,t,M,N,x,ag⟩:=hcut;clear O KC q n c;have al:=(show Sm (f k/((lm u.dem k:Int):Rat)) (L+2)from(hs k (by omega)).div SP aa);have a3:=M.sm1 al;have a4:=N.sm2 al;obtain⟨aS,aO,aP,aQ⟩:=t.q3 rfl;have aH:=x.size;go_wp2_with (at_builtin;refine sv _ rfl _ _ rfl w.heap.size _ (enL f u.dem k) ⟨wc.heap.size,0,lI⟩ 1 (f k/((lm u.dem k:Int):Rat)) S T pc W X Y rfl rfl (G.alloc _) ((i1 wc #[kZ (negB (f k/((lm u.dem k:Int):Rat))),kX S T pc,kX W X Y] 90).cell 0 _ rfl) ((i1 wc #[kZ (negB (f k/((lm u.dem k:Int):Rat))),kX S T pc,kX W X Y] 90).cell 1 _ rfl) ((i1 wc #[kZ (negB (f k/((lm u.dem k:Int):Rat))),kX S T pc,kX W X Y] 90).cell 2 _ rfl) (M.alloc _) (N.alloc _) (by omega) (eh aH (by simp)) ?_);intro v' w' ao an;have ar:=(x.alloc x.size _).trans an
     skip
     (have E:enL f u.dem (k+1)=enL f u.dem k++[f k/((lm u.dem k:Int):Rat)]:=by simp only[enL];rw[ec HZ.out]);have HE:=hid E;clear E;clear an;go_wp2;go_roundg (dn-(k+1));exact⟨k+1,_,rfl,rfl,by omega,by go_num,by rw[HE.out];exact ao,ar⟩;omega
  ·(obtain rfl:k=dn:=by omega);go_wp2;go_ret;exact⟨_,rfl,hO,hB⟩
def zg (f:Nat->Rat):Nat->Rat
  |0=>f 0
  |m+1=>if f m<zg f m then f m else zg f m
theorem rC {f:Nat->Rat}(h:∀i,i<n->Sm (f i) L)(h0:0<n):∀m,m<=n->Sm (zg f m) L:=by
 intro m
 induction m with
 |zero=>intro _;exact h 0 h0
 |succ m ih=>
  intro a;simp only[zg];split
  ·exact h m (by omega)
  ·exact ih (by omega)
theorem Ak (l:List Rat)(m:Nat):zg (rq l) m=xm l m:=by
 induction m with
 |zero=>rfl
 |succ m ih=>simp only[zg,xm];rw[ih]
theorem Fa:Calls prog 50 #[kX ao 0 cap] w fun e w'=>e=lF (lB #[lA #[kZ lL,kX lI 0 0,kX lI 0 0],kZ lL])/\Below w.heap.size w w':=by
 go_enter func50,ntmps50;go_wp2;exact eG (v:=lB #[lA #[kZ lL,kX lI 0 0,kX lI 0 0],kZ lL]) (by simp[results,results50,go_sem]) rfl ⟨rfl,brf.alloc lR _⟩
theorem xw {f:Nat->Rat}(hf:Frs w ao n cap f)(hs:∀i,i<n->Sm (f i) 10000)(h0:0<n):Calls prog 50 #[kX ao n cap] w fun e w'=>∃v,e=lF (lB #[v,kZ lK])/\Frac w' v (zg f n)/\Below w.heap.size w w':=by
 have ax:=hf.le;unfold maxLen at ax;(have aI:((n:Int) == 0)=lL:=by rw[eg];omega);(have aJ:(0:Int)<(n:Int):=by omega);obtain⟨b,o,pa,pb,pc,pd,pe,pf,rfl,aH,c0,c1,c2,af,ag⟩:=hf.get h0;(have aC:b<(w.alloc (lE #[kZ lL,kX lI 0 0,kX lI 0 0] 90)).heap.size:=by simp;omega);have aN:=af.sm1 (hs 0 h0);have aO:=ag.sm2 (hs 0 h0);have D:=brw w;have t:=i1 w #[kZ lL,kX lI 0 0,kX lI 0 0] 90;have I:=af.alloc (lE #[kZ lL,kX lI 0 0,kX lI 0 0] 90);have K:=ag.alloc (lE #[kZ lL,kX lI 0 0,kX lI 0 0] 90);have d:=D.alloc D.size (lE #[kZ lL,kX lI 0 0,kX lI 0 0] 90);have aL:=D.size;simp only[Nat.zero_mul,ia]at c0 c1 c2;go_enter func50,ntmps50;have u:=i7 t (lE #[kZ (negB (f 0)),kX pa pb pc,kX pd pe pf] 90);have a:=i1 (w.alloc (lE #[kZ lL,kX lI 0 0,kX lI 0 0] 90)) #[kZ (negB (f 0)),kX pa pb pc,kX pd pe pf] 90;have aa:=I.alloc (lE #[kZ (negB (f 0)),kX pa pb pc,kX pd pe pf] 90);have ab:=K.alloc (lE #[kZ (negB (f 0)),kX pa pb pc,kX pd pe pf] 90);have s:=d.alloc d.size (lE #[kZ (negB (f 0)),kX pa pb pc,kX pd pe pf] 90);have aK:=d.size;(have n1:w.heap.size≠w.heap.size+1:=by omega);go_wp2
 go_loopw [16] (fun i wr=>∃(k:Nat) (Y:Option Addr) (qb qc:Nat) (qd:Option Addr) (qe qf:Nat),k<=n/\i=kW lD k/\Bx wr w.heap.size #[kZ lL,kX lI 0 0,kX lI 0 0] 90/\Bx wr (w.heap.size+1) #[kZ (negB (zg f k)),kX Y qb qc,kX qd qe qf] 90/\Row wr Y qb qc (zA (zg f k).num.natAbs)/\Row wr qd qe qf (zA (zg f k).den)/\Bl w wr) (fun i _=>n-(intOf i).toNat)
 case atStart=>exact⟨0,pa,pb,pc,pd,pe,pf,ep _,rfl,u,(by have h9:=a;simp only[em]at h9;exact h9),aa,ab,s⟩
 case round=>
  obtain⟨k,Y,qb,qc,qd,qe,qf,hk,rfl,G,P,T,U,hB⟩:=hrel;by_cases ae:k<n
  ·obtain⟨b2,o2,j,l,m,p,q,r,aw,aD,c0,c1,c2,ah,ai⟩:=(hf.iP hB).get ae;(obtain⟨rfl,rfl⟩:b=b2/\o=o2:=by simpa using aw);have aT:=ah.sm1 (hs k ae);have aU:=ai.sm2 (hs k ae);have SQ:=rC hs h0 k hk;have aP:=T.sm1 SQ;have aQ:=U.sm2 SQ;obtain⟨V,Q,R,S⟩:=P.q3 rfl;have t:=i7 G (lE #[kZ (negB (f k)),kX j l m,kX p q r] 90);have X:=i1 wr #[kZ (negB (f k)),kX j l m,kX p q r] 90;have x:=T.alloc (lE #[kZ (negB (f k)),kX j l m,kX p q r] 90);have z:=U.alloc (lE #[kZ (negB (f k)),kX j l m,kX p q r] 90);have B:=ah.alloc (lE #[kZ (negB (f k)),kX j l m,kX p q r] 90);have C:=ai.alloc (lE #[kZ (negB (f k)),kX j l m,kX p q r] 90);have d:=hB.alloc hB.size (lE #[kZ (negB (f k)),kX j l m,kX p q r] 90);have aM:=hB.size;(have aS:w.heap.size<wr.heap.size:=by omega);go_wp2_with fail;refine(o8 B C x z (by omega) (by omega) (by omega) (by omega)).mono ?_;rintro e1 w1 ⟨rfl,g⟩;have u:=t.ji g;have A0:=eb g;have a:=P.ji A0;have F:=X.ji g;have y:=x.iP g;have A:=z.iP g;have M:=B.iP g;have O:=C.iP g;have s:=et d g;clear g;obtain⟨V,Q,az,R,aA,S,aB⟩:=a.w3 rfl;obtain⟨ay,aq,ar,au⟩:=F.q3 rfl;generalize hcq:xJ (f k) (zg f k)=c;by_cases hc:c<0
   ·(have E:zg f (k+1)=f k:=by simp only[zg];rw[ed];have h9:=hcq;rw[<-h9] at hc;exact Cf.1 hc);have HE:=E;go_wp2
    go_roundw
    clear V Q az R aA S aB ay aq ar au
    case rel=>
     have am:=u.put3_other (b:=(w.heap.size+1)) (kZ (negB (f k))) (kX j l m) (kX p q r) (by omega);have ac:=M.jM a (by decide) (kZ (negB (f k))) (kX j l m) (kX p q r);have ad:=O.jM a (by decide) (kZ (negB (f k))) (kX j l m) (kX p q r);have aj:=j8 s (by omega:w.heap.size<=(w.heap.size+1)) (kZ (negB (f k))) (kX j l m) (kX p q r);have al:=a.jM (kZ (negB (f k))) (kX j l m) (kX p q r);refine⟨k+1,j,l,m,p,q,r,by omega,by go_num,am,?_,?_,?_,aj⟩;all_goals rw[HE]
     ·exact al
     ·exact ac
     ·exact ad
    case measure=>simp[intOf];omega
   ·(have E:zg f (k+1)=zg f k:=by simp only[zg];rw[ec];have h9:=hcq;rw[<-h9] at hc;exact fun h=>hc (Cf.2 h));have HE:=E;go_wp2
    go_roundw
    case rel=>
     refine⟨k+1,Y,qb,qc,qd,qe,qf,by omega,by go_num,u,?_,?_,?_,s⟩;all_goals rw[HE]
     ·exact a
     ·exact y
     ·exact A
    case measure=>simp[intOf];omega
  ·(obtain rfl:k=n:=by omega);obtain⟨aR,aE,aV,aF,aW,aG,aX⟩:=G.w3 rfl;obtain⟨V,Q,R,S⟩:=P.q3 rfl;go_wp2;have Z:=G.jM (kZ (negB (zg f k))) (kX Y qb qc) (kX qd qe qf);obtain⟨z0,z1,z2⟩:=Z.c3 rfl;unfold zy at z0 z1 z2;exact eG (v:=lB #[lA #[kZ (negB (zg f k)),kX Y qb qc,kX qd qe qf],kZ lK]) (by simp[results,results50,go_sem,z0,z1,z2]) rfl ⟨_,rfl,⟨Y,qb,qc,qd,qe,qf,rfl,T.jM G (by decide) _ _ _,U.jM G (by decide) _ _ _⟩,j8 hB lR _ _ _⟩
structure FD where
  ao:Option Addr
  n:Nat
  cap:Nat
  us:List Usr
  kk:Nat
  kw:Nat->Rat
  sb:Nat
  rb:Nat
  gr:Nat
  gt:Nat
  gl:Nat
abbrev FD.cells (d:FD)(l:Rat)(la:Option Addr)(lb lc:Nat)(ld:Option Addr)(le lf:Nat):Array lN:=
  #[kX d.ao d.n d.cap,kX (lJ ⟨d.rb,0,lI⟩) d.kk d.kk,kZ (negB l),kX la lb lc,kX ld le lf,kX (lJ ⟨d.gr,0,lI⟩) d.n d.n,kX (lJ ⟨d.gt,0,lI⟩) d.n d.n,kX (lJ ⟨d.gl,0,lI⟩) d.n d.n]
structure FD.Apart (d:FD)(B:Nat):Prop where
  lsb:B<=d.sb
  lrb:B<=d.rb
  lgr:B<=d.gr
  lgt:B<=d.gt
  lgl:B<=d.gl
  a1:d.sb≠d.rb
  a2:d.sb≠d.gr
  a3:d.sb≠d.gt
  a4:d.sb≠d.gl
  a5:d.rb≠d.gr
  a6:d.rb≠d.gt
  a7:d.rb≠d.gl
  a8:d.gr≠d.gt
  a9:d.gr≠d.gl
  a10:d.gt≠d.gl
structure FS (w0:lM)(d:FD)(w:lM)(s:St):Prop where
  bel:Below w0.heap.size w0 w
  box:∃la lb lc ld le lf,Bx w d.sb (d.cells s.lev la lb lc ld le lf) 92/\Row w la lb lc (zA s.lev.num.natAbs)/\Row w ld le lf (zA s.lev.den)
  kw:FB w d.rb d.kk d.kk d.kw
  rt:FB w d.gr d.n d.n s.rt
  ts:FB w d.gt d.n d.n s.ts
  lv:FB w d.gl d.n d.n s.lv
variable{w0 w':lM}{d:FD}{s:St}
theorem FS.iP (h:FS w0 d w s)(hb:Below w.heap.size w w'):FS w0 d w' s:=by
 obtain⟨e,f,g,i,j,k,a,b,c⟩:=h.box;exact⟨h.bel.trans (hb.mono h.bel.size),⟨e,f,g,i,j,k,a.ji hb,b.iP hb,c.iP hb⟩,h.kw.iP hb,h.rt.iP hb,h.ts.iP hb,h.lv.iP hb⟩
theorem FS.alloc (h:FS w0 d w s)(o:Obj):FS w0 d (w.alloc o) s:=h.iP (brf.alloc lR o)
theorem FS.drew (h:FS w0 d w s):FS w0 d w.drew s:=h.iP brf.drew
theorem FS.congr {t:St}(h:FS w0 d w s)(hl:s.lev=t.lev)(h1:∀i,i<d.n->s.rt i=t.rt i)(h2:∀i,i<d.n->s.ts i=t.ts i)(h3:∀i,i<d.n->s.lv i=t.lv i):FS w0 d w t:=by
 refine⟨h.bel,by rw[<-hl];exact h.box,h.kw,h.rt.congr h1,h.ts.congr h2,h.lv.congr h3⟩
theorem FS.blk (h:FS w0 d w s):∃arr,w.heap[d.sb]?=lJ (lE arr 92 (0,0)):=by
 obtain⟨e,f,g,i,j,k,a,b,c⟩:=h.box;exact⟨_,a⟩
variable{g:Nat}
theorem FB.blk {f:Nat->Rat}(h:FB w g n k f):∃arr,w.heap[g]?=lJ (lE arr 90 (0,0)):=by
 obtain⟨arr,a,_⟩:=h;exact⟨arr,a⟩
variable{o:Nat}{u0 u1 u2:lN}
theorem FS.jx (h:FS w0 d w s){arr:Array lN}{T:TypeId}(hx:w.heap[b]?=lJ (lE arr T (0,0)))(hT:T≠3)(hb:w0.heap.size<=b)(n0:b≠d.sb)(n1:b≠d.rb)(n2:b≠d.gr)(n3:b≠d.gt)(n4:b≠d.gl):FS w0 d (yr w b o u0 u1 u2) s:=by
 obtain⟨f,g,i,j,k,l,a,c,e⟩:=h.box;exact⟨np h.bel hb _ _ _,⟨f,g,i,j,k,l,a.jH _ _ _ n0,c.kF hx hT,e.kF hx hT⟩,h.kw.jH hx hT n1,h.rt.jH hx hT n2,h.ts.jH hx hT n3,h.lv.jH hx hT n4⟩
variable{i un uc yn yc:Nat}{uo yo:Option Addr}
theorem FS.putTs (h:FS w0 d w s)(ha:d.Apart w0.heap.size)(hi:i<d.n)(q:Rat)(r1:Row w uo un uc (zA q.num.natAbs))(r2:Row w yo yn yc (zA q.den)):FS w0 d (yr w d.gt (i*3) (kZ (negB q)) (kX uo un uc) (kX yo yn yc)) ⟨s.lev,s.rt,upd s.ts i q,s.lv⟩:=by
 obtain⟨j,k,l,m,o,p,e,f,g⟩:=h.box;obtain⟨c,a⟩:=h.ts.blk;have b:=h.ts.put hi (ir hi) q r1 r2;rw[ec (by omega)]at b;exact⟨np h.bel ha.lgt _ _ _,⟨j,k,l,m,o,p,e.jH _ _ _ ha.a3.symm,f.kF a (by decide),g.kF a (by decide)⟩,h.kw.jH a (by decide) ha.a6.symm,h.rt.jH a (by decide) ha.a8.symm,b,h.lv.jH a (by decide) ha.a10⟩
theorem FS.putLv (h:FS w0 d w s)(ha:d.Apart w0.heap.size)(hi:i<d.n)(q:Rat)(r1:Row w uo un uc (zA q.num.natAbs))(r2:Row w yo yn yc (zA q.den)):FS w0 d (yr w d.gl (i*3) (kZ (negB q)) (kX uo un uc) (kX yo yn yc)) ⟨s.lev,s.rt,s.ts,upd s.lv i q⟩:=by
 obtain⟨j,k,l,m,o,p,e,f,g⟩:=h.box;obtain⟨c,a⟩:=h.lv.blk;have b:=h.lv.put hi (ir hi) q r1 r2;rw[ec (by omega)]at b;exact⟨np h.bel ha.lgl _ _ _,⟨j,k,l,m,o,p,e.jH _ _ _ ha.a4.symm,f.kF a (by decide),g.kF a (by decide)⟩,h.kw.jH a (by decide) ha.a7.symm,h.rt.jH a (by decide) ha.a9.symm,h.ts.jH a (by decide) ha.a10.symm,b⟩
theorem FS.kS (h:FS w0 d w s)(ha:d.Apart w0.heap.size)(hi:i<d.n)(q:Rat)(r1:Row w uo un uc (zA q.num.natAbs))(r2:Row w yo yn yc (zA q.den)):FS w0 d (yr w d.gr (i*3) (kZ (negB q)) (kX uo un uc) (kX yo yn yc)) ⟨s.lev,upd s.rt i q,s.ts,s.lv⟩:=by
 obtain⟨j,k,l,m,o,p,e,f,g⟩:=h.box;obtain⟨c,a⟩:=h.rt.blk;have b:=h.rt.put hi (ir hi) q r1 r2;rw[ec (by omega)]at b;exact⟨np h.bel ha.lgr _ _ _,⟨j,k,l,m,o,p,e.jH _ _ _ ha.a2.symm,f.kF a (by decide),g.kF a (by decide)⟩,h.kw.jH a (by decide) ha.a5.symm,b,h.ts.jH a (by decide) ha.a8,h.lv.jH a (by decide) ha.a9⟩
theorem FS.kT (h:FS w0 d w s)(ha:d.Apart w0.heap.size)(q:Rat)(r1:Row w uo un uc (zA q.num.natAbs))(r2:Row w yo yn yc (zA q.den)):FS w0 d (yr w d.sb 2 (kZ (negB q)) (kX uo un uc) (kX yo yn yc)) ⟨q,s.rt,s.ts,s.lv⟩:=by
 obtain⟨c,e,f,g,i,j,b,k,l⟩:=h.box;refine⟨np h.bel ha.lsb _ _ _,⟨uo,un,uc,yo,yn,yc,?_,r1.kF b (by decide),r2.kF b (by decide)⟩,h.kw.jH b (by decide) ha.a1,h.rt.jH b (by decide) ha.a2,h.ts.jH b (by decide) ha.a3,h.lv.jH b (by decide) ha.a4⟩;have:=rz (u0:=kZ (negB q)) (u1:=kX uo un uc) (u2:=kX yo yn yc) (o:=2) b;exact this
theorem FB.lim {i:Nat}{f:Nat->Rat}(h:FB w g n k f)(hk:k<=n):n*3<=3*n:=by omega
structure Small (d:FD)(s:St)(L:Nat):Prop where
  lev:Sm s.lev L
  rt:∀i,i<d.n->Sm (s.rt i) 4
  ts:∀i,i<d.n->Sm (s.ts i) L
  lv:∀i,i<d.n->Sm (s.lv i) L
  pos:∀i,i<d.n->0<=s.ts i/\0<=s.lv i
structure FD.Ok (d:FD)(w0:lM):Prop where
  ap:d.Apart w0.heap.size
  kr:Users w0 d.ao d.n d.cap d.us
  kx:Good d.us d.kk
  n6:d.n<=6
  k4:d.kk<=4
  k1:1<=d.kk
  rooms:∀i,i<d.kk->Sm (d.kw i) 2
  tab:Tab w0
theorem FD.Ok.len (h:d.Ok w0):d.us.length=d.n:=h.kr.1
def BB (w:lM)(g n k:Nat)(f:Nat->Bool):Prop:=∃arr,w.heap[g]?=lJ (lE arr 4 (0,0))/\arr.size=n/\∀i,i<k->arr[i]?=lJ (kZ (f i))
variable{f:Nat->Bool}
theorem BB.lt (h:BB w g n k f):g<w.heap.size:=by
 obtain⟨a,b,_⟩:=h;exact(ek.1 b).1
theorem BB.iP (h:BB w g n k f)(hb:Below w.heap.size w w'):BB w' g n k f:=by
 obtain⟨a,b,c,d⟩:=h;exact⟨a,(hb.block g (ek.1 b).1).trans b,c,d⟩
theorem BB.alloc (h:BB w g n k f)(o:Obj):BB (w.alloc o) g n k f:=h.iP (brf.alloc lR o)
theorem BB.drew (h:BB w g n k f):BB w.drew g n k f:=h.iP brf.drew
theorem BB.cell (h:BB w g n k f)(hi:i<k):lH w ⟨g,i,lI⟩=lJ (kZ (f i)):=by
 obtain⟨a,b,d,c⟩:=h;exact(hH w g _ _ _ _ b).trans (c i hi)
theorem BB.frozen (h:BB w g n k f)(j:Nat):w.frozen? ⟨g,j,lI⟩=lL:=by
 obtain⟨a,b,_⟩:=h;exact jg w g j _ _ b
theorem BB.has (h:BB w g n k f){j:Nat}(hj:j<n):∃x,lH w ⟨g,j,lI⟩=lJ x:=by
 obtain⟨a,b,c,_⟩:=h;exact⟨a[j]'(by omega),(hH w g j _ _ _ b).trans (iN (by omega))⟩
theorem BB.put (h:BB w g n k f)(hk:k<n):BB (lG w ⟨g,k,lI⟩ (kZ (f k))) g n (k+1) f:=by
 obtain⟨a,b,c,d⟩:=h;refine⟨_,eP w g k _ _ _ b,by simp[c],fun i hi=>?_⟩;by_cases e:i=k
 ·subst e;rw[iA (by omega)]
 ·rw[eE (by omega)];exact d i (by omega)
theorem Tryz.infoBool:(prog.info? 4).map (fun i=>(i.zero,i.size,i.bytes))=lJ (lJ (kZ lL),1,1):=by kernel_rfl
theorem CA (w:lM){ops:Array Oper}{rest:List Oper}{o:Oper}{a:Act}{Q:Exit->Act->lM->Prop}(hg:o.guard=lI)(l c:Operand)(hop:o.op=Op.makeSlice 73 l c)(L C:Int)(n:Nat)(hl:a.eval l=kW lD L)(hc:a.eval c=kW lD C)(hL:L=(n:Int))(hC:C=(n:Int))(hn:n<=1000000)(hK:∀w',(∀f,BB w' w.heap.size n 0 f)->Below w.heap.size w w'->w.heap.size<w'.heap.size->wpList prog ops Q rest (a.put o.dst (kX (lJ ⟨w.heap.size,0,lI⟩) n n)) w'):wpList prog ops Q (o::rest) a w:=by
 obtain⟨i,r,j,m,p⟩:=iM Tryz.infoBool;refine wpList_make_full w hg l c 73 hop w.heap.size 4 i (kZ lL) 1 underlying73 r j m lD lD L C n hl hc hL hC (by rw[p];omega) (by unfold maxLen;omega) lR ?_;intro w' v h;have u:Bl w w':=brf.grown h lR (fun k e=>by cases e);rcases v.2 with⟨b,_⟩|⟨g,s,d,b,_,q,x,y,t,z⟩
 ·cases b
 ·simp only[iV,io,Addr.mk.injEq,and_true,true_and]at b;obtain⟨rfl,rfl⟩:=b;exact hK w' (fun f=>⟨d,q,by rw[t,ic],fun i r=>by omega⟩) u (ek.1 q).1
def upB (d:FD)(ts:Nat->Rat)(r:Nat):Bool:=decide (zK d.us ts r d.n=d.kw r)
def xZ (dem:List Int)(f:Nat->Bool):Nat->Bool
  |0=>lL
  |k+1=>xZ dem f k||(decide (0<lm dem k)&&f k)
variable{dem:List Int}
theorem wO (hi:i<k)(h0:0<lm dem i)(h1:f i=lK):xZ dem f k=lK:=by
 induction k with
 |zero=>omega
 |succ k ih=>
  simp only[xZ];by_cases e:i=k
  ·subst e;simp[h0,h1]
  ·rw[ih (by omega)];rfl
theorem Dz {aa:Option Addr}{ab ac:Nat}{ad:Option Addr}{ae af:Nat}{q:Rat}(h1:Row w aa ab ac (zA q.num.natAbs))(h2:Row w ad ae af (zA q.den))(b1:ab<=10000)(b2:ae<=10000)(ht:Tab w):Calls prog 52 #[lA #[kZ (negB q),kX aa ab ac,kX ad ae af]] w fun e w'=>e=lF (kZ (decide (q=0)))/\Below w.heap.size w w':=by
 have j:=brw w;have C:=i1 w #[kZ (negB q),kX aa ab ac,kX ad ae af] 90;have n:=h1.alloc (lE #[kZ (negB q),kX aa ab ac,kX ad ae af] 90);have p:=h2.alloc (lE #[kZ (negB q),kX aa ab ac,kX ad ae af] 90);have k:=j.alloc j.size (lE #[kZ (negB q),kX aa ab ac,kX ad ae af] 90);have ag:=j.size;go_enter func52,ntmps52;go_wp2_with fail;refine(mx (by omega) (by omega) _ (ht.of k)).mono ?_;rintro e1 K ⟨v1,rfl,⟨v,x,y,z,A,B,rfl,F,G⟩,u⟩;have a:=C.ji u;have o:=n.iP u;have r:=p.iP u;have l:=et k u;clear u;have I:=(show Sm (((0:Int):Rat)) 5 from Sm.zero5);have ai:=F.sm1 I;have aj:=G.sm2 I;obtain⟨T,Q,R,S⟩:=a.q3 rfl;have d:=o.alloc (lE #[kZ (negB ((0:Int):Rat)),kX v x y,kX z A B] 90);have f:=r.alloc (lE #[kZ (negB ((0:Int):Rat)),kX v x y,kX z A B] 90);have g:=F.alloc (lE #[kZ (negB ((0:Int):Rat)),kX v x y,kX z A B] 90);have i:=G.alloc (lE #[kZ (negB ((0:Int):Rat)),kX v x y,kX z A B] 90);have ah:=l.size;go_wp2_with fail;refine(o8 d f g i b1 b2 (by omega) (by omega)).mono ?_;rintro e3 w3 ⟨rfl,b⟩;have A0:=eb b;have H:=et l A0;clear b;generalize hcq:xJ q ((0:Int):Rat)=c;go_wp2;go_ret;refine⟨?_,H⟩;have Z:=hcq
 have e:(c == 0)=decide (q=0):=by
  rw[<-Z];by_cases J:q=0
  ·rw[ei J,jo];exact pF.2 J
  ·rw[ee J,eg];exact fun h=>J (pF.1 h)
 rw[<-e];rfl
def zv (pool:List Int)(i:Nat):Rat:=((lm pool i:Int):Rat)
theorem EN {pool:List Int}(ha:Arr w 1 ao n cap (zi pool))(hpa:∀i,yG (lm pool i)=lK)(hn:n<=1000000)(ht:Tab w):Calls prog 45 #[kX ao n cap] w fun e w'=>e=lF (kX (lJ ⟨w.heap.size,0,lI⟩) n n)/\FB w' w.heap.size n n (zv pool)/\Below w.heap.size w w':=by
 have r:=ha.len;rw[j9]at r;have x:=eh ha.le ha.cm;unfold maxLen at x;go_enter func45,ntmps45;go_wp2_with (at_make;refine sA _ rfl _ _ rfl _ _ n rfl rfl rfl rfl hn ?_);intro Y q p C;have D:=q (zv pool);go_wp2
 go_loopw [11] (fun i wr=>∃k:Nat,k<=n/\i=kW lD k/\FB wr w.heap.size n k (zv pool)/\Bl w wr) (fun i _=>n-(intOf i).toNat)
 case atStart=>exact⟨0,ep _,rfl,D,p⟩
 case round=>
  obtain⟨k,R,rfl,v,hB⟩:=hrel;by_cases s:k<n
  ·have G:=hB.size;obtain⟨b,o,rfl,H⟩:=ha.head (by omega);have Q:=(ha.iP hB).int rfl s;have I:=JH (hpa k);go_wp2_with fail;refine(mx (by omega) (by omega) _ (ht.of hB)).mono ?_;rintro F z ⟨O,rfl,⟨S,T,U,V,W,X,rfl,h,l⟩,c⟩;have a:=v.iP c;have g:=et hB c;clear c;have m:=(show Sm (((lm pool k:Int):Rat)) 5 from Sm.int (by omega) (by omega));have L:=h.sm1 m;have M:=l.sm2 m;obtain⟨Z,y⟩:=a.has (j:=k*3+0) (by omega);have P:=a.frozen (k*3+0);obtain⟨x1,J⟩:=a.has (j:=k*3+1) (by omega);have z1:=a.frozen (k*3+1);obtain⟨x2,K⟩:=a.has (j:=k*3+2) (by omega);have z2:=a.frozen (k*3+2);simp only[ia]at y P;have N:=a.lt;go_wp2
   go_roundw
   case rel=>exact⟨k+1,by omega,by go_num,(by
    have B:=a.put s (ea k) ((lm pool k:Int):Rat) h l
    rw[ed rfl]at B
    exact B.congr (fun j hj=>by
     by_cases e:j=k
     ·subst e;rw[nW];rfl
     ·rw[nS _ _ e])),np g lR _ _ _⟩
   case measure=>simp[intOf];omega
  ·(obtain rfl:k=n:=by omega);go_wp2;go_ret;exact⟨rfl,v,hB⟩
def zeroF (i:Nat):Rat:=((0:Int):Rat)
theorem At (hn:n<=1000000)(ht:Tab w):Calls prog 48 #[kW lD n] w fun e w'=>e=lF (kX (lJ ⟨w.heap.size,0,lI⟩) n n)/\FB w' w.heap.size n n (zeroF)/\Below w.heap.size w w':=by
 go_enter func48,ntmps48;go_wp2_with (at_make;refine sA _ rfl _ _ rfl _ _ n rfl rfl rfl rfl hn ?_);intro P o m v;have x:=o (zeroF);go_wp2
 go_loopw [9] (fun i wr=>∃k:Nat,k<=n/\i=kW lD k/\FB wr w.heap.size n k (zeroF)/\Bl w wr) (fun i _=>n-(intOf i).toNat)
 case atStart=>exact⟨0,ep _,rfl,x,m⟩
 case round=>
  obtain⟨k,I,rfl,q,hB⟩:=hrel;by_cases r:k<n
  ·have A:=hB.size;go_wp2_with fail;refine(mx (by omega) (by omega) _ (ht.of hB)).mono ?_;rintro z t ⟨G,rfl,⟨J,K,L,M,N,O,rfl,g,h⟩,b⟩;have a:=q.iP b;have f:=et hB b;clear b;have l:=(show Sm (((0:Int):Rat)) 5 from Sm.int (by omega) (by omega));have D:=g.sm1 l;have E:=h.sm2 l;obtain⟨Q,s⟩:=a.has (j:=k*3+0) (by omega);have H:=a.frozen (k*3+0);obtain⟨R,B⟩:=a.has (j:=k*3+1) (by omega);have T:=a.frozen (k*3+1);obtain⟨S,C⟩:=a.has (j:=k*3+2) (by omega);have U:=a.frozen (k*3+2);simp only[ia]at s H;have F:=a.lt;go_wp2
   go_roundw
   case rel=>exact⟨k+1,by omega,by go_num,(by
    have u:=a.put r (ea k) ((0:Int):Rat) g h
    rw[ed rfl]at u
    exact u.congr (fun j hj=>by
     by_cases e:j=k
     ·subst e;rw[nW];rfl
     ·rw[nS _ _ e])),np f lR _ _ _⟩
   case measure=>simp[intOf];omega
  ·(obtain rfl:k=n:=by omega);go_wp2;go_ret;exact⟨rfl,q,hB⟩
def rateQ (f:Nat->Rat)(u:Usr)(k:Nat):Rat:=zg (rq (enL f u.dem k)) (enL f u.dem k).length*((u.wt:Int):Rat)
theorem Cq {f:Nat->Rat}(hs:∀i,i<n->Sm (f i) L)(hd:∀i,yG (lm dem i)=lK):∀k,k<=n->∀x,x∈enL f dem k->Sm x (L+2):=by
 intro k
 induction k with
 |zero=>intro _ x a;cases a
 | succ k ih=>
  intro c x a;simp only[enL]at a;split at a
  ·exact ih (by omega) x a
  ·rename_i b;rcases iu.1 a with h|h
   ·exact ih (by omega) x h
   ·rw[jv]at h;subst h;exact(hs k (by omega)).div (Sm.amt (hd k)) (qI b)
theorem DH {f:Nat->Rat}(hf:Frs w ro rn rc f)(hs:∀i,i<rn->Sm (f i) 10)(hd:Arr w 1 da dn dc (zi u.dem))(hda:∀i,yG (lm u.dem i)=lK)(hrn:dn<=rn)(hdn:dn<=4)(hwt:1<=u.wt/\u.wt<=100)(l:List Rat)(ln:Nat)(hl:Hid (enL f u.dem dn=l))(hln:Hid (l.length=ln))(hl0:0<ln)(ht:Tab w):Calls prog 47 #[kX ro rn rc,lA #[kX da dn dc,kW lD u.wt,kW lD u.cap]] w fun e w'=>∃v,e=lF v/\Frac w' v (zg (rq l) ln*((u.wt:Int):Rat))/\Below w.heap.size w w':=by
 have aY:=hf.le;unfold maxLen at aY;have q:=brw w;have ai:=i1 w #[kX da dn dc,kW lD u.wt,kW lD u.cap] 56;have r:=q.alloc q.size (lE #[kX da dn dc,kW lD u.wt,kW lD u.cap] 56);have a6:=q.size;have h:=i7 ai (lE #[kZ lL,kX lI 0 0,kX lI 0 0] 90);have aI:=i1 (w.alloc (lE #[kX da dn dc,kW lD u.wt,kW lD u.cap] 56)) #[kZ lL,kX lI 0 0,kX lI 0 0] 90;have d:=r.alloc r.size (lE #[kZ lL,kX lI 0 0,kX lI 0 0] 90);have a4:=r.size;have ag:=(show Bx ((w.alloc (lE #[kX da dn dc,kW lD u.wt,kW lD u.cap] 56)).alloc (lE #[kZ lL,kX lI 0 0,kX lI 0 0] 90)) (w.heap.size+1) #[kZ lL,kX lI 0 0,kX lI 0 0] 90 by simp only[em]at aI;exact aI);go_enter func47,ntmps47;obtain⟨aE,ar,au,aw⟩:=h.q3 rfl;go_wp2_with fail;refine(EE (hf.iP d) hs (by omega) (hd.iP d) hda hrn (by omega) (ht.of d)).mono ?_;rintro e2 w2 ⟨v8,rfl,ax,V⟩;have aj:=h.ji V;have ac:=ag.ji V;have D:=et d V;clear V;(have U:∀i,i<(enL f u.dem dn).length->Sm (rq (enL f u.dem dn) i) 12:=fun i hi=>Cq (fun i hi=>hs i (by omega)) hda dn lR _ (rY hi));rw[hl]at ax U;obtain⟨lo,lc,rfl,T⟩:=ax.frs;rw[hln]at T U ⊢;go_wp2_with fail;refine(xw T (fun i hi=>(U i hi).mono (by omega)) hl0).mono ?_;rintro e3 w3 ⟨v3,rfl,⟨W,X,Y,qd,qe,qf,rfl,aA,aB⟩,S⟩;have ak:=aj.ji S;have ad:=ac.ji S;have s:=et D S;clear S;have ap:=(show Sm (zg (rq l) ln) 12 from rC U hl0 _ lR);have a9:=aA.sm1 ap;have ba:=aB.sm2 ap;have j:=i7 ak (lE #[kZ (negB (zg (rq l) ln)),kX W X Y,kX qd qe qf] 90);have aa:=i1 w3 #[kZ (negB (zg (rq l) ln)),kX W X Y,kX qd qe qf] 90;have t:=s.alloc s.size (lE #[kZ (negB (zg (rq l) ln)),kX W X Y,kX qd qe qf] 90);have a3:=s.size;obtain⟨aE,ar,au,aw⟩:=j.q3 rfl;go_wp2_with fail;refine(mx (by omega) (by omega) _ (ht.of t)).mono ?_;rintro e5 w5 ⟨v5,rfl,⟨y,tb,z,A,B,C,rfl,aC,aD⟩,k⟩;have A0:=eb k;have b:=ad.ji A0;have g:=aa.ji k;have M:=aA.iP A0;have P:=aB.iP A0;have x:=et t k;clear k;have aq:=(show Sm (((u.wt:Int):Rat)) 5 from Sm.int (by omega) (by omega));have bb:=aC.sm1 aq;have bc:=aD.sm2 aq;obtain⟨aM,aJ,aN,aK,aO,aL,aP⟩:=b.w3 rfl;obtain⟨aZ,aV,aW,aX⟩:=g.q3 rfl;have m:=M.alloc (lE #[kZ (negB ((u.wt:Int):Rat)),kX y tb z,kX A B C] 90);have n:=P.alloc (lE #[kZ (negB ((u.wt:Int):Rat)),kX y tb z,kX A B C] 90);have o:=aC.alloc (lE #[kZ (negB ((u.wt:Int):Rat)),kX y tb z,kX A B C] 90);have p:=aD.alloc (lE #[kZ (negB ((u.wt:Int):Rat)),kX y tb z,kX A B C] 90);have a5:=x.size;go_wp2_with fail;refine(tP m n o p (by omega) (by omega) (by omega) (by omega)).mono ?_;rintro e7 w7 ⟨v7,rfl,⟨ma,mb,mc,md,me,mf,rfl,ay,az⟩,c⟩;have A1:=eb c;have a:=b.ji A1;have aF:=et x A1;clear c;have aH:=(show Sm (zg (rq l) ln*((u.wt:Int):Rat)) 17 from ap.mul aq);have a7:=ay.sm1 aH;have a8:=az.sm2 aH;obtain⟨aM,aJ,aN,aK,aO,aL,aP⟩:=a.w3 rfl;go_wp2;have Z:=a.jM (kZ (negB (zg (rq l) ln*((u.wt:Int):Rat)))) (kX ma mb mc) (kX md me mf);obtain⟨z0,z1,z2⟩:=Z.c3 rfl;unfold zy at z0 z1 z2;exact eG (v:=lA #[kZ (negB (zg (rq l) ln*((u.wt:Int):Rat))),kX ma mb mc,kX md me mf]) (by simp[results,results47,go_sem,z0,z1,z2]) rfl ⟨_,rfl,⟨ma,mb,mc,md,me,mf,rfl,ay.jM a (by decide) _ _ _,az.jM a (by decide) _ _ _⟩,j8 aF (by omega) _ _ _⟩
theorem EK (ro:Option Addr) (rn rc:Nat) (f:Nat->Rat) (da:Option Addr) (dn dc:Nat) (u:Usr) (w:lM) (hf:Frs w ro rn rc f) (hs:∀i,i<rn->Sm (f i) 10) (hd:Arr w 1 da dn dc (zi u.dem)) (hda:∀i,yG (lm u.dem i)=lK) (hrn:dn<=rn) (hdn:dn<=4) (hwt:1<=u.wt/\u.wt<=100) (hl0:0<(enL f u.dem dn).length) (ht:Tab w) :
    Calls prog 47 #[kX ro rn rc,lA #[kX da dn dc,kW lD u.wt,kW lD u.cap]] w fun e w'=>∃v,e=lF v/\Frac w' v (rateQ f u dn)/\Below w.heap.size w w':=
  DH hf hs hd hda hrn hdn hwt _ _ rfl rfl hl0 ht
theorem FS.lts (h:FS w0 d w s):d.sb<w.heap.size/\d.rb<w.heap.size/\d.gr<w.heap.size/\d.gt<w.heap.size/\d.gl<w.heap.size:=by
 obtain⟨e,f,g,i,j,k,a,b,c⟩:=h.box;exact⟨a.lt,h.kw.lt,h.rt.lt,h.ts.lt,h.lv.lt⟩
theorem wQ (h:FS w0 d w s)(ho:d.Ok w0)(hs:∀i,i<d.n->Sm (s.ts i) L)(hL:5+d.n*(L+3)<=10000):Calls prog 55 #[kY (lJ ⟨d.sb,0,lI⟩)] w fun e w'=>e=lF (kX (lJ ⟨w.heap.size,0,lI⟩) d.kk d.kk)/\BB w' w.heap.size d.kk d.kk (upB d s.ts)/\Below w.heap.size w w':=by
 have aP:=ho.n6;have aE:=ho.k4;have aQ:=ho.len;have H:=h;clear h;obtain⟨la,lb,lc,ld,le,lf,x,J,K⟩:=H.box;have Y:=x.lt;have g0:=x.cell 0 _ rfl;have g1:=x.cell 1 _ rfl;have g6:=x.cell 6 _ rfl;clear J K;clear x;go_enter func55,ntmps55;go_wp2_with (at_make;refine CA _ rfl _ _ rfl _ _ d.kk rfl rfl rfl rfl (by omega) ?_);intro w1 ak W aI;have HF:=ak (upB d s.ts);have q0:=qs W g0 Y;have q1:=qs W g1 Y;clear ak g0 g1 g6;(have aY:d.sb<w1.heap.size:=by omega);go_wp2
 go_loopg[18] d.kk (fun g i wr=>∃k:Nat,g=d.kk-k/\k<=d.kk/\i=kW lD k/\Hid (BB wr w.heap.size d.kk k (upB d s.ts))/\Hid (Bl w wr))
 case atStart=>exact⟨0,rfl,ep _,rfl,HF,W⟩
 case round=>
  clear q0 q1 HF;obtain⟨k,aO,hk,rfl,hF,hB⟩:=hrel;have ad:=H.iP hB;by_cases M:k<d.kk
  ·obtain⟨N,O,P,Q,R,S,c0,c1,c2,aa,ab⟩:=ad.kw.cells M;have SR:=ho.rooms k M;have aT:=aa.sm1 SR;have aU:=ab.sm2 SR;have aJ:=ad.kw.lt;have A:=hid (i1 wr #[kZ (negB (d.kw k)),kX N O P,kX Q R S] 90);have m:=hid (hF.alloc (lE #[kZ (negB (d.kw k)),kX N O P,kX Q R S] 90));have q:=hid (aa.alloc (lE #[kZ (negB (d.kw k)),kX N O P,kX Q R S] 90));have r:=hid (ab.alloc (lE #[kZ (negB (d.kw k)),kX N O P,kX Q R S] 90));have a:=hid (hB.alloc hB.size (lE #[kZ (negB (d.kw k)),kX N O P,kX Q R S] 90));have aS:=hB.size;clear hF aa ab hB;go_wp2_with fail;generalize wr.alloc (lE #[kZ (negB (d.kw k)),kX N O P,kX Q R S] 90)=V at A m q r a ⊢;clear c0 c1 c2;have T:=H.iP a;obtain⟨la,lb,lc,ld,le,lf,x,J,K⟩:=T.box;have B:=x.lt;have f0:=x.cell 0 _ rfl;have f6:=x.cell 6 _ rfl;clear x J K;have az:=pG ho.kx (by omega) hs k d.n lR;(have SK:Hid (∀U,Bl V U->lH U ⟨d.sb,0,lI⟩=lJ (kX d.ao d.n d.cap)/\lH U ⟨d.sb,6,lI⟩=lJ (kX (lJ ⟨d.gt,0,lI⟩) d.n d.n)):=fun U h=>⟨qs h f0 B,qs h f6 B⟩);have KC:∀U,Bl V U->Calls prog 100 #[kX d.ao d.n d.cap,kX (lJ ⟨d.gt,0,lI⟩) d.n d.n,kW lD k] U (fun e w'=>∃v,e=lF v/\Frac w' v (zK d.us s.ts k d.n)/\Bl V w'/\Bl U w'):=fun U hU=>(tw (ho.kr.iP (T.iP hU).bel) ho.kx ((T.iP hU).ts.frs (by unfold maxLen;omega)) hs M aE hL (ho.tab.of (T.iP hU).bel)).mono (fun e w' ⟨v,h1,h2,h3⟩=>⟨v,h1,h2,hU.trans (h3.mono hU.size),h3⟩)
   go_cut[6,18] (fun pp y0 wx=>∃(PB:Nat) (ta:Option Addr) (tb tc:Nat) (td:Option Addr) (te tf:Nat),pp=kY (lJ ⟨PB,0,lI⟩)/\kW lD (k:Nat)=y0/\Hid (Bx wx wr.heap.size #[kZ (negB (d.kw k)),kX N O P,kX Q R S] 90)/\Hid (BB wx w.heap.size d.kk k (upB d s.ts))/\Hid (Row wx N O P (zA (d.kw k).num.natAbs))/\Hid (Row wx Q R S (zA (d.kw k).den))/\Hid (Bx wx PB #[kZ (negB (zK d.us s.ts k d.n)),kX ta tb tc,kX td te tf] 90)/\Hid (Row wx ta tb tc (zA (zK d.us s.ts k d.n).num.natAbs))/\Hid (Row wx td te tf (zA (zK d.us s.ts k d.n).den))/\Hid (Bl w wx)/\V.heap.size<=PB)
   case first=>obtain⟨aL,aM⟩:=SK _ (brw V).drew;go_region_held3 (fun w'=>lH w' ⟨d.sb,0,lI⟩=lJ (kX d.ao d.n d.cap)/\lH w' ⟨d.sb,6,lI⟩=lJ (kX (lJ ⟨d.gt,0,lI⟩) d.n d.n)) (first|exact SK _ brf.drew|exact SK _ (brf.alloc lR _).drew|exact SK _ f|exact SK _ (f.alloc f.size _)|exact SK _ (j8 f lR _ _ _)) (first|(go_at_call 100;refine(KC _ ?hU).mono ?_;(case hU=>first|exact brf.drew|exact(brf.alloc lR _).drew);rintro e7 w7 ⟨v7,rfl,⟨ta,tb,tc,td,te,tf,rfl,al,am⟩,f,X⟩;try (have C:=(i1 V #[kZ lL,kX lI 0 0,kX lI 0 0] 90).drew.ji X;obtain⟨xl,a2,aZ,a3,a0,a4,a1⟩:=C.w3 rfl;clear C)));(all_goals (go_wp2_with fail;go_meet));all_goals (first|exact⟨w7.heap.size,ta,tb,tc,td,te,tf,rfl,rfl,i7 (A.ji f) _,(m.iP f).alloc _,(q.iP f).alloc _,(r.iP f).alloc _,i1 w7 _ _,al.alloc _,am.alloc _,(et a f).alloc (eh a.size f.size) _,f.size⟩|exact⟨V.heap.size,ta,tb,tc,td,te,tf,rfl,rfl,A.ji (j8 f lR _ _ _),m.iP (j8 f lR _ _ _),q.iP (j8 f lR _ _ _),r.iP (j8 f lR _ _ _),Bx.jM ((i1 V #[kZ lL,kX lI 0 0,kX lI 0 0] 90).drew.ji X) _ _ _,al.jM ((i1 V #[kZ lL,kX lI 0 0,kX lI 0 0] 90).drew.ji X) (by decide) _ _ _,am.jM ((i1 V #[kZ lL,kX lI 0 0,kX lI 0 0] 90).drew.ji X) (by decide) _ _ _,j8 (et a f) a.size _ _ _,lR⟩)
   case rest=>
    obtain⟨aK,ta,tb,tc,td,te,tf,rfl,rfl,l,F,y,z,b,t,u,D,aF⟩:=hcut;clear SK KC A m q r a;have ag:=(show Sm (zK d.us s.ts k d.n) (5+d.n*(L+3))from az);have aV:=t.sm1 ag;have aW:=u.sm2 ag;obtain⟨aG,aB,aC,aD⟩:=l.q3 rfl;obtain⟨an,ah,ai,aj⟩:=b.q3 rfl;go_wp2_with fail;clear aG aB aC aD an ah ai aj;refine(o8 t u y z (by omega) (by omega) (by omega) (by omega)).mono ?_;rintro aN aH ⟨rfl,j⟩;have o:=F.iP j;have Z:=et D j;clear l b F y z t u D;clear j;generalize hcq:xJ (zK d.us s.ts k d.n) (d.kw k)=c;obtain⟨x0,aR⟩:=o.has M;have z0:=o.frozen k;have aX:=o.lt
    have E:(c == 0)=upB d s.ts k:=by
     unfold upB;rw[<-hcq];by_cases hq:zK d.us s.ts k d.n=d.kw k
     ·rw[ei hq,jo];exact pF.2 hq
     ·rw[ee hq,eg];exact fun h=>hq (pF.1 h)
    have HE:=hid E;clear E;go_wp2;go_roundg (d.kk-(k+1));(case measure=>omega);case rel=>have h5:=o.put M;rw[<-HE.out]at h5;exact⟨k+1,rfl,by omega,by go_num,h5,Z.setCell lR _⟩
  ·(obtain rfl:k=d.kk:=by omega);go_wp2;go_ret;exact⟨rfl,hF,hB⟩
def capB (d:FD)(ts:Nat->Rat)(i:Nat):Bool:=decide (ts i=((ug d.us i).cap:Rat))
theorem wJ (h:FS w0 d w s)(ho:d.Ok w0)(hs:∀i,i<d.n->Sm (s.ts i) L)(hL:L<=10000)(hi:i<d.n):Calls prog 107 #[kY (lJ ⟨d.sb,0,lI⟩),kW lD i] w fun e w'=>e=lF (kZ (capB d s.ts i))/\Below w.heap.size w w':=by
 unfold capB;have ay:=ho.n6;have ax:=ho.k4;have az:=ho.len;have au:=ho.kx.cap (i:=i) (by omega);(have aw:(i:Int)<(d.n:Int):=by omega);have H:=h;clear h;obtain⟨la,lb,lc,ld,le,lf,r,u,v⟩:=H.box;have ai:=r.lt;have g0:lH w ⟨d.sb,0,lI⟩=lJ (kX d.ao d.n d.cap):=r.cell 0 _ rfl;clear u v;clear r;obtain⟨b,o,da,dn,dc,ae,ar,u0,u1,u2,hd⟩:=(ho.kr.iP H.bel).get hi;clear hd;rw[ae]at g0;have y:=brw w;go_enter func107,ntmps107;go_wp2_with fail;refine(mx (by omega) (by omega) _ (ho.tab.of H.bel)).mono ?_;rintro e0 w0 ⟨v0,rfl,⟨C,D,F,G,I,J,rfl,M,N⟩,T⟩;have t:=et y T;clear y;clear T;have S:=(show Sm (((ug d.us i).cap:Rat)) 5 from Sm.int (by omega) (by omega));have aH:=M.sm1 S;have aI:=N.sm2 S;clear g0 u0 u1 u2;have a:=i1 w0 #[kZ (negB ((ug d.us i).cap:Rat)),kX C D F,kX G I J] 90;have g:=M.alloc (lE #[kZ (negB ((ug d.us i).cap:Rat)),kX C D F,kX G I J] 90);have j:=N.alloc (lE #[kZ (negB ((ug d.us i).cap:Rat)),kX C D F,kX G I J] 90);have k:=t.alloc t.size (lE #[kZ (negB ((ug d.us i).cap:Rat)),kX C D F,kX G I J] 90);have aF:=t.size;clear t;go_wp2_with fail;generalize w0.alloc (lE #[kZ (negB ((ug d.us i).cap:Rat)),kX C D F,kX G I J] 90)=V at a g j k ⊢;have K:=H.iP k;obtain⟨aA,aB,aC,aD,aE,aG,r,u,v⟩:=K.box;have B:=r.lt;have f6:=r.cell 6 _ rfl;clear r u v;obtain⟨X,Y,Z,ud,ue,uf,c0,c1,c2,O,P⟩:=K.ts.cells hi;have f:=K.ts.lt;have aJ:=O.sm1 (hs i hi);have aK:=P.sm2 (hs i hi);obtain⟨x,m0,m1,m2⟩:=a.q3 rfl;obtain⟨c,W⟩:∃c,xJ (s.ts i) ((ug d.us i).cap:Rat)=c:=⟨_,rfl⟩;have SK:=fun U (h:Bl V U)=>(⟨qs h f6 B,qs h c0 f,qs h c1 f,qs h c2 f,qs h m0 x,qs h m1 x,qs h m2 x⟩:_/\_/\_/\_/\_/\_/\_);(have KC:∀U,Bl V U->Calls prog 101 #[lA #[kZ (negB (s.ts i)),kX X Y Z,kX ud ue uf],lA #[kZ (negB ((ug d.us i).cap:Rat)),kX C D F,kX G I J]] U (fun e w'=>e=lF (kW lD c)/\Bl V w'):=fun U hU=>(o8 (O.iP hU) (P.iP hU) (g.iP hU) (j.iP hU) (by omega) (by omega) (by omega) (by omega)).mono (fun e w' ⟨h1,h3⟩=>⟨h1.trans (by rw[W]),hU.trans (h3.mono hU.size)⟩));have am:=qd f6;have aj:=qd c0;have ak:=qd c1;have al:=qd c2;have an:=qd m0;have ap:=qd m1;have aq:=qd m2;go_region_held3 (fun w'=>lH w' ⟨d.sb,6,lI⟩=lJ (kX (lJ ⟨d.gt,0,lI⟩) d.n d.n)/\lH w' ⟨d.gt,i*3,lI⟩=lJ (kZ (negB (s.ts i)))/\lH w' ⟨d.gt,i*3+1,lI⟩=lJ (kX X Y Z)/\lH w' ⟨d.gt,i*3+2,lI⟩=lJ (kX ud ue uf)/\lH w' ⟨w0.heap.size,0,lI⟩=lJ (kZ (negB ((ug d.us i).cap:Rat)))/\lH w' ⟨w0.heap.size,1,lI⟩=lJ (kX C D F)/\lH w' ⟨w0.heap.size,2,lI⟩=lJ (kX G I J)) (first|exact SK _ brf.drew|exact SK _ l) (first|(go_at_call 101;refine(KC _ ?hU).mono ?_;(case hU=>exact brf.drew);rintro e7 w7 ⟨rfl,l⟩));have Q:=et k l;clear a g j O P k;clear l SK KC
 have E:(c == 0)=decide (s.ts i=((ug d.us i).cap:Rat)):=by
  rw[<-W];by_cases hq:s.ts i=((ug d.us i).cap:Rat)
  ·rw[ei hq,jo];exact pF.2 hq
  ·rw[ee hq,eg];exact fun h=>hq (pF.1 h)
 go_wp2;go_ret;exact⟨by rw[<-E];rfl,Q⟩
theorem C6 (hd:Arr w 1 da dn dc (zi u.dem))(hb:BB w g kk kk f)(hk:dn<=kk)(hk4:kk<=4):Calls prog 108 #[lA #[kX da dn dc,kW lD u.wt,kW lD u.cap],kX (lJ ⟨g,0,lI⟩) kk kk] w fun e w'=>e=lF (kZ (xZ u.dem f dn))/\Below w.heap.size w w':=by
 have j:=hd.len;rw[j9]at j;have l:=eh hd.le hd.cm;unfold maxLen at l;have a:=brw w;have c:=a.alloc a.size (lE #[kX da dn dc,kW lD u.wt,kW lD u.cap] 56);have B:=a.size;go_enter func108,ntmps108;go_wp2
 go_loop[10] (fun i=>∃k:Nat,k<=dn/\i=kW lD k/\Hid (xZ u.dem f k=lL)) (fun i=>dn-(intOf i).toNat)
 case atStart=>exact⟨0,ep _,rfl,rfl⟩
 case round=>
  obtain⟨k,hk,rfl,m⟩:=hrel;by_cases h:k<dn
  ·obtain⟨b,o,rfl,z⟩:=hd.head (by omega);have v:=hd.int rfl h;have D:=hb.cell (i:=k) (by omega);have C:=hb.lt;(have A:(k:Int)<(kk:Int):=by omega);generalize hx:lm u.dem k=x at v;have q:=hid hx;generalize hy:f k=y at D;have r:=hid hy;by_cases t:0<x
   ·cases y with
    |true=>have d:=hid (wO (dem:=u.dem) (f:=f) h (by rw[q.out];exact t) r);go_wp2;go_ret;exact⟨by rw[d.out];rfl,c⟩
    |false=>(have E:xZ u.dem f (k+1)=lL:=by simp only[xZ];rw[m.out,r.out];simp);have d:=hid E;go_wp2;exact⟨⟨k+1,by omega,by go_num,d⟩,by simp[intOf];omega⟩
   ·(have E:xZ u.dem f (k+1)=lL:=by simp only[xZ];rw[m.out,q.out,ee t];rfl);have d:=hid E;go_wp2;exact⟨⟨k+1,by omega,by go_num,d⟩,by simp[intOf];omega⟩
  ·(obtain rfl:k=dn:=by omega);go_wp2;go_ret;exact⟨by rw[m.out];rfl,c⟩
theorem BB.jH (h:BB w g n k f)(u0 u1 u2:lN)(hne:b≠g):BB (yr w b o u0 u1 u2) g n k f:=by
 obtain⟨a,c,d,i⟩:=h;refine⟨a,?_,d,i⟩;unfold yr;rw[iR _ _ g _ (fun e=>hne e.symm),iR _ _ g _ (fun e=>hne e.symm),iR _ _ g _ (fun e=>hne e.symm)];exact c
def stB (d:FD)(ts:Nat->Rat)(i:Nat):Bool:=capB d ts i||xZ (ug d.us i).dem (upB d ts) d.kk
def xg (d:FD)(s:St)(k:Nat):Nat->Rat:=fun i=>if i<k/\stB d s.ts i=lK then((0:Int):Rat)else s.rt i
def midS (d:FD)(s:St)(k:Nat):St:=⟨s.lev,xg d s k,s.ts,s.lv⟩
theorem ow (h:g≠b):(yr w b o u0 u1 u2).cell? ⟨g,i,lI⟩=lH w ⟨g,i,lI⟩:=by
 unfold yr;(have e:∀(w:lM) (j:Nat) (u:lN),(lG w ⟨b,j,lI⟩ u).cell? ⟨g,i,lI⟩=lH w ⟨g,i,lI⟩:=fun w j u=>iw (eT w _ u g h));rw[e,e,e]
theorem Hb (h:FS w0 d w s)(ho:d.Ok w0)(hs:∀i,i<d.n->Sm (s.ts i) L)(hL:5+d.n*(L+3)<=10000):Calls prog 54 #[kY (lJ ⟨d.sb,0,lI⟩)] w fun e w'=>e=lF (lB #[])/\FS w0 d w' (midS d s d.n):=by
 have a3:=ho.n6;have aM:=ho.k4;have a4:=ho.len;have af:=ho.ap;have H:=h;have HO:=hid ho;go_enter func54,ntmps54;go_wp2_with fail;refine(wQ H HO hs hL).mono ?_;rintro e1 w1 ⟨rfl,ay,am⟩;have aj:=H.iP am;have aV:=H.lts;have a5:=am.size;obtain⟨la,lb,lc,ld,le,lf,x,B,C⟩:=aj.box;have aW:=x.lt;have g0:=x.cell 0 _ rfl;clear x;go_wp2
 go_loopg[13] d.n (fun g i wr=>∃k:Nat,g=d.n-k/\k<=d.n/\i=kW lD k/\Hid (FS w0 d wr (midS d s k))/\Hid (BB wr w.heap.size d.kk d.kk (upB d s.ts)))
 case atStart=>exact⟨0,rfl,ep _,rfl,aj.congr rfl (fun i hi=>by unfold midS xg;simp) (fun i hi=>rfl) (fun i hi=>rfl),ay⟩
 case round=>
  obtain⟨k,a1,hk,rfl,hF,aw⟩:=hrel;have G:=hF.bel;by_cases ah:k<d.n
  ·(have aZ:L+8<=10000:=by have:=hI (L+3) (show 1<=d.n by omega);omega);obtain ⟨b,o,da,dn,dc,ax,a0,c0,c1,c2,hd⟩:=(HO.kr.iP G).get ah;have an:=hd.len;rw[j9,HO.out.kx.len (i:=k) (by omega)] at an;have aq:=hid an.symm;clear an;have W:=hid ax;clear ax;have T:=i1 wr #[kX da dn dc,kW lD (ug d.us k).wt,kW lD (ug d.us k).cap] 56;have F:=hF.alloc (lE #[kX da dn dc,kW lD (ug d.us k).wt,kW lD (ug d.us k).cap] 56);have O:=aw.alloc (lE #[kX da dn dc,kW lD (ug d.us k).wt,kW lD (ug d.us k).cap] 56);have Q:=hd.alloc (lE #[kX da dn dc,kW lD (ug d.us k).wt,kW lD (ug d.us k).cap] 56);have I:=G.alloc G.size (lE #[kX da dn dc,kW lD (ug d.us k).wt,kW lD (ug d.us k).cap] 56);have a6:=G.size;clear hF aw hd G;rw[W.out];go_wp2_with fail;refine (wJ F HO hs (by omega) ah).mono ?_;rintro aX az ⟨rfl,z⟩;have f:=T.ji z;have m:=F.iP z;have l:=O.iP z;have t:=Q.iP z;have q:=et I z;clear T F O Q I;clear z;clear c0 c1 c2
   cases ag:capB d (midS d s k).ts k with
   | true=>
    have ak:=hid ag;clear ag;(have E:stB d s.ts k=lK:=by unfold stB;rw[show capB d s.ts k=lK from ak.out];rfl);have HE:=hid E;clear E;go_wp2_with fail;generalize az=V at f m l t q ⊢;have c:=m;obtain⟨la,lb,lc,ld,le,lf,x,B,C⟩:=c.box;have y:=x.lt;have f5:=x.cell 5 _ rfl;clear x B C;(have aN:(k:Int)<(d.n:Int):=by omega);(have R:Hid (∀U,Bl V U->lH U ⟨d.sb,5,lI⟩=lJ (kX (lJ ⟨d.gr,0,lI⟩) d.n d.n)):=fun U h=>(qs h f5 y));(have KC:Hid (∀U,Bl V U->Calls prog 46 #[kW lD 0] U (fun e w'=>∃v,e=lF v/\Frac w' v (((0:Int):Rat))/\Bl V w')):=fun U hU=>(mx (by omega) (by omega) U (HO.tab.of (c.iP hU).bel)).mono (fun e w' ⟨v,h1,h2,h3⟩=>⟨v,h1,h2,hU.trans (h3.mono hU.size)⟩));have aL:=qd f5;go_region_held3 (fun w'=>lH w' ⟨d.sb,5,lI⟩=lJ (kX (lJ ⟨d.gr,0,lI⟩) d.n d.n)) (first|exact R _ brf.drew|exact R _ a|exact R _ a|exact(ow af.a2).trans (R _ a)) (first|(go_at_call 46;refine(KC _ ?hU).mono ?_;(case hU=>exact brf.drew);rintro e7 w7 ⟨v7,rfl,⟨za,zb,zc,zd,ze,zf,rfl,M,N⟩,a⟩;obtain⟨x0,aO⟩:=(c.rt.iP a).has (j:=k*3) (by omega);have z0:=(c.rt.iP a).frozen (k*3);obtain⟨x1,aP⟩:=(c.rt.iP a).has (j:=k*3+1) (by omega);have z1:=(c.rt.iP a).frozen (k*3+1);obtain⟨x2,aQ⟩:=(c.rt.iP a).has (j:=k*3+2) (by omega);have z2:=(c.rt.iP a).frozen (k*3+2);have aS:=(c.rt.iP a).lt));have Z:=m.iP a;have X:=l.iP a;clear f m l t q;clear R KC;have ab:=M;have ad:=N;have S:=hid (show Sm (((0:Int):Rat)) 5 from Sm.zero5);have aT:=M.sm1 S;have aU:=N.sm2 S;clear M N a;go_wp2;rw[<-W.out];go_roundg (d.n-(k+1));case measure=>omega
    case rel=>
     have h5:=Z.kS af ah ((0:Int):Rat) ab ad;refine⟨k+1,rfl,by omega,by go_num,h5.congr rfl (fun j hj=>?_) (fun j hj=>rfl) (fun j hj=>rfl),X.jH _ _ _ (by omega)⟩;show upd (xg d s k) k _ j=xg d s (k+1) j;unfold xg;by_cases e:j=k
     ·subst e;rw[nW,ed ⟨by omega,HE.out⟩]
     ·rw[nS _ _ e];by_cases P:j<k/\stB d s.ts j=lK
      ·rw[ed P,ed ⟨by omega,P.2⟩]
      ·rw[ec P,ec (fun h=>P ⟨by omega,h.2⟩)]
   | false=>
    have ak:=hid ag;clear ag;obtain⟨aR,aI,aJ,aK⟩:=f.q3 rfl;go_wp2_with fail;clear aR aI aJ aK;refine(C6 t l (Nat.le_of_eq aq) aM).mono ?_;rintro aY aA ⟨rfl,A⟩;have K:=f.ji A;have r:=m.iP A;have u:=l.iP A;have J:=t.iP A;have D:=et q A;clear f m l t q;clear A;rw[aq.out]
    cases ai:xZ (ug d.us k).dem (upB d s.ts) d.kk with
    | true=>
     have al:=hid ai;clear ai;(have E:stB d s.ts k=lK:=by unfold stB;rw[al.out];simp);have HE:=hid E;clear E;go_wp2_with fail;generalize aA=V at K r u J D ⊢;have c:=r;obtain⟨la,lb,lc,ld,le,lf,x,B,C⟩:=c.box;have y:=x.lt;have f5:=x.cell 5 _ rfl;clear x B C;(have aN:(k:Int)<(d.n:Int):=by omega);(have R:Hid (∀U,Bl V U->lH U ⟨d.sb,5,lI⟩=lJ (kX (lJ ⟨d.gr,0,lI⟩) d.n d.n)):=fun U h=>(qs h f5 y));(have KC:Hid (∀U,Bl V U->Calls prog 46 #[kW lD 0] U (fun e w'=>∃v,e=lF v/\Frac w' v (((0:Int):Rat))/\Bl V w')):=fun U hU=>(mx (by omega) (by omega) U (HO.tab.of (c.iP hU).bel)).mono (fun e w' ⟨v,h1,h2,h3⟩=>⟨v,h1,h2,hU.trans (h3.mono hU.size)⟩));have aL:=qd f5;go_region_held3 (fun w'=>lH w' ⟨d.sb,5,lI⟩=lJ (kX (lJ ⟨d.gr,0,lI⟩) d.n d.n)) (first|exact R _ brf.drew|exact R _ a|exact R _ a|exact(ow af.a2).trans (R _ a)) (first|(go_at_call 46;refine(KC _ ?hU).mono ?_;(case hU=>exact brf.drew);rintro e7 w7 ⟨v7,rfl,⟨za,zb,zc,zd,ze,zf,rfl,M,N⟩,a⟩;obtain⟨x0,aO⟩:=(c.rt.iP a).has (j:=k*3) (by omega);have z0:=(c.rt.iP a).frozen (k*3);obtain⟨x1,aP⟩:=(c.rt.iP a).has (j:=k*3+1) (by omega);have z1:=(c.rt.iP a).frozen (k*3+1);obtain⟨x2,aQ⟩:=(c.rt.iP a).has (j:=k*3+2) (by omega);have z2:=(c.rt.iP a).frozen (k*3+2);have aS:=(c.rt.iP a).lt));have aa:=r.iP a;have Y:=u.iP a;clear K r u J D;clear R KC;have S:=hid (show Sm (((0:Int):Rat)) 5 from Sm.zero5);have aT:=M.sm1 S;have aU:=N.sm2 S;clear a;go_wp2;rw[<-W.out];go_roundg (d.n-(k+1));case measure=>omega
     case rel=>
      have h5:=aa.kS af ah ((0:Int):Rat) M N;refine⟨k+1,rfl,by omega,by go_num,h5.congr rfl (fun j hj=>?_) (fun j hj=>rfl) (fun j hj=>rfl),Y.jH _ _ _ (by omega)⟩;show upd (xg d s k) k _ j=xg d s (k+1) j;unfold xg;by_cases e:j=k
      ·subst e;rw[nW,ed ⟨by omega,HE.out⟩]
      ·rw[nS _ _ e];by_cases P:j<k/\stB d s.ts j=lK
       ·rw[ed P,ed ⟨by omega,P.2⟩]
       ·rw[ec P,ec (fun h=>P ⟨by omega,h.2⟩)]
    | false=>
     have al:=hid ai;clear ai;(have E:stB d s.ts k=lL:=by unfold stB;rw[show capB d s.ts k=lL from ak.out,al.out];rfl);have HE:=hid E;clear E;go_wp2;rw[<-W.out];go_roundg (d.n-(k+1));case measure=>omega
     case rel=>
      refine⟨k+1,rfl,by omega,by go_num,r.congr rfl (fun j hj=>?_) (fun j hj=>rfl) (fun j hj=>rfl),u⟩;show xg d s k j=xg d s (k+1) j;unfold xg;by_cases e:j=k
      ·subst e;rw[ec (fun h=>by omega),ec (fun h=>by rw[HE.out]at h;cases h.2)]
      ·by_cases P:j<k/\stB d s.ts j=lK
       ·rw[ed P,ed ⟨by omega,P.2⟩]
       ·rw[ec P,ec (fun h=>P ⟨by omega,h.2⟩)]
  ·(obtain rfl:k=d.n:=by omega);go_wp2;go_end0;exact⟨rfl,hF⟩
end Go.Proofs.YtigokanoflkinaaGreatDoor
