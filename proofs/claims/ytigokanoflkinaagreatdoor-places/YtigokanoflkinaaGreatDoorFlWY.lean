/- FlW, FlX, FlY, joined. -/
import Derived.Test.YtigokanoflkinaaGreatDoorZJ
set_option maxHeartbeats 8000000
set_option maxRecDepth 20000
namespace Go.Proofs.YtigokanoflkinaaGreatDoor
set_option linter.unusedSimpArgs false
set_option linter.unusedVariables false
open Go.RowKit Por Go.Proofs.Tryz
open Value renaming int->kW,slice->kX,pointer->kY,bool->kZ,agg->lA,tuple->lB,string->lC
open IntKind renaming i64->lD
open Obj renaming cells->lE
open Ending renaming returned->lF
open World renaming setCell->lG,cell?->lH
open Option renaming none->lI,some->lJ
open Bool renaming true->lK,false->lL
open Go renaming World->lM,Value->lN
variable{F:Flt}{u:Nat}
theorem Enc.setDue {M:Nat->lN}(h:Enc M F)(hu:u<6)(x:ByteArray):Enc (xV M (43+u*22+16) (lC x)) {F with due:=yR F.due u x}:=by
 refine⟨?_,?_,?_,fun i hi=>?_,fun i hi r hr=>?_,fun v hv=>?_,fun v hv r hr=>?_,fun v hv=>?_,fun v hv=>?_,fun v hv=>?_,fun v hv m hm=>?_,fun v hv=>?_,fun v hv=>?_,fun v hv r hr=>?_,?_,fun r hr=>?_⟩
 ·rw[i6 _ _ (by omega)];exact h.k
 ·rw[i6 _ _ (by omega)];exact h.mg
 ·rw[i6 _ _ (by omega)];exact h.ug
 ·rw[i6 _ _ (by omega)];exact h.mt i hi
 ·rw[i6 _ _ (by omega)];exact h.ms i hi r hr
 ·rw[i6 _ _ (by omega)];exact h.ut v hv
 ·rw[i6 _ _ (by omega)];exact h.ud v hv r hr
 ·rw[i6 _ _ (by omega)];exact h.uw v hv
 ·rw[i6 _ _ (by omega)];exact h.uc v hv
 ·rw[i6 _ _ (by omega)];exact h.kV v hv
 ·rw[i6 _ _ (by omega)];exact h.on v hv m hm
 ·by_cases e:v=u
  ·subst e;rw[mq];show _=Value.string (yR F.due v x v);unfold yR;rw[ed rfl]
  ·rw[i6 _ _ (by omega)];show _=Value.string (yR F.due u x v);unfold yR;rw[ec e];exact h.due v hv
 ·rw[i6 _ _ (by omega)];exact h.ky v hv
 ·rw[i6 _ _ (by omega)];exact h.ks v hv r hr
 ·rw[i6 _ _ (by omega)];exact h.ck
 ·rw[i6 _ _ (by omega)];exact h.ku r hr
abbrev withD (F:Flt)(D:Nat->ByteArray):Flt:={F with due:=D}
variable{w:lM}{b:Nat}
theorem FL.setDue (h:FL w b F)(hu:u<6)(x:ByteArray):FL (lG w ⟨b,43+u*22+16,lI⟩ (lC x)) b (withD F (yR F.due u x)):=by
 obtain⟨M,a,c⟩:=h;exact⟨_,a.set _ _,c.setDue hu x⟩
theorem FL.cDue (h:FL w b F)(hu:u<6):lH w ⟨b,43+u*22+16,lI⟩=lJ (lC (F.due u))/\w.frozen? ⟨b,43+u*22+16,lI⟩=lL:=by
 obtain⟨M,a,c⟩:=h;rw[a.cell (by omega),c.due u hu];exact⟨rfl,a.frozen _⟩
structure Only2 (B b c:Nat)(w w':lM):Prop where
  os:w'.os=w.os
  tape:w'.tape=w.tape
  output:w'.output=w.output
  size:w.heap.size<=w'.heap.size
  block:∀k,k<B->k≠b->k≠c->w'.heap[k]?=w.heap[k]?
variable{B:Nat}{w':lM}
theorem Only2.jE (b c:Nat)(h:Below B w w'):Only2 B b c w w':=⟨h.os,h.tape,h.output,h.size,fun k hk _ _=>h.block k hk⟩
variable{c:Nat}{x:lM}
theorem Only2.trans {y z:lM} (h:Only2 B b c x y) (k:Only2 B b c y z):Only2 B b c x z:=
  ⟨k.os.trans h.os,k.tape.trans h.tape,k.output.trans h.output,eh h.size k.size,fun i hi hn hm=>(k.block i hi hn hm).trans (h.block i hi hn hm)⟩
theorem Only2.setL (h:Only2 B b c x w) (o:Nat) (v:lN):Only2 B b c x (lG w ⟨b,o,lI⟩ v):=
  ⟨h.os,h.tape,h.output,by simpa[World.setCell]using h.size,fun k hk hn hm=>(eT w _ v k hn).trans (h.block k hk hn hm)⟩
theorem Only2.setR (h:Only2 B b c x w) (o:Nat) (v:lN):Only2 B b c x (lG w ⟨c,o,lI⟩ v):=
  ⟨h.os,h.tape,h.output,by simpa[World.setCell]using h.size,fun k hk hn hm=>(eT w _ v k hm).trans (h.block k hk hn hm)⟩
theorem Only2.only (h:Only2 B b c w w'){C:Nat}(h1:C<=B)(h2:C<=c):Only C b w w':=⟨h.os,h.tape,h.output,h.size,fun k hk hn=>h.block k (by omega) hn (by omega)⟩
theorem oD (t:Nat->Bool)(n:Nat):zp t n<=n:=by
 induction n with
 |zero=>exact lR
 |succ n ih=>simp only[zp];cases t n<;>simp<;>omega
variable{k:Nat}
theorem DP (b:Nat)(P G:Nat->Int)(hk:k<6)(x:Int):(zq b P G).setIfInBounds (5+k) (kW lD x)=zq b P (zE G k x):=by
 (have:k=0\/k=1\/k=2\/k=3\/k=4\/k=5:=by omega);rcases this with rfl|rfl|rfl|rfl|rfl|rfl<;>rfl
theorem UOw.alloc {base:Nat}{v:lN}{ps:List (lN×Usr)}(h:UOw base w v ps)(o:Obj):UOw base (w.alloc o) v ps:=h.iP (brf.alloc lR o)
variable{g:Nat}{cur:Array lN}
theorem FL.ne_of {T:TypeId}(h:FL w b F)(hx:w.heap[g]?=lJ (lE cur T (0,0)))(hT:T≠115):g≠b:=by
 obtain⟨M,a,_⟩:=h;rintro rfl;unfold FBk at a;rw[hx]at a;simp only[io,Obj.cells.injEq]at a;exact hT a.2.1
theorem Bx.ne_of {cs:Array lN}{T S:TypeId}(h:Bx w b cs T)(hx:w.heap[g]?=lJ (lE cur S (0,0)))(hT:S≠T):g≠b:=by
 rintro rfl;unfold Bx at h;rw[hx]at h;simp only[io,Obj.cells.injEq]at h;exact hT h.2.1
theorem ShB.set {n:Nat}{ts lv:Nat->Rat}{st:Nat->Int}(h:ShB w g n k ts lv st)(a:Addr)(v:lN)(ha:g≠a.block):ShB (w.setCell a v) g n k ts lv st:=by
 obtain⟨b,c,d⟩:=h;exact⟨b,(eT w a v g ha).trans c,d⟩
theorem Tab.set {T:TypeId}(h:Tab w)(hx:w.heap[g]?=lJ (lE cur T (0,0))){z:lN}(h0:cur[0]?=lJ z)(hz:z≠kW .u64 1)(o:Nat)(v:lN):Tab (lG w ⟨g,o,lI⟩ v):=by
 unfold Tab Go.Lib.TabIs World.var? at *
 cases hg:prog.globalNamed "internal/strconv.uint64pow10" with
 |none=>simp[hg]at h
 |some t=>simp only[hg,jO]at h ⊢;(have hne:t≠g:=by rintro rfl;rw[hx]at h;simp only[jO,io]at h;rw[h]at h0;simp[Go.Lib.pow10Tab]at h0;exact hz h0.symm);rw[eT w ⟨g,o,lI⟩ v t hne];exact h
theorem CW {sb:Nat}{P:Nat->Int}(hs:Bx w sb (zq b P (fun _=>0)) 165)(hf:FL w b F)(ht:Tab w)(hk4:F.k<=4)(herr:zr (zu P F.k) (xi F)=0)(hw:∀u,u<6->0<=F.m.kV u/\F.m.kV u<=1000000)(ho:∀u,u<6->∀m,m<8->0<=F.m.on u m/\F.m.on u m<=1000000):Calls prog 163 #[kY (lJ ⟨sb,0,lI⟩)] w fun e w'=>e=lF (lB #[])/\FL w' b (withD F (xU F P))/\Bx w' sb (zq b P (zm F P)) 165/\Tab w'/\Only2 w.heap.size b sb w w':=by
 have lb:=hf.lt;obtain⟨af,b8⟩:=hs.q1 rfl;have bD:=hf.kH hs (by decide);have aF:=hid hf;have ah:=hid hs;have bc:=hid ht;have an:=hid herr;have HW:=hid hw;have HO:=hid ho;have a4:=hid hk4;obtain⟨M,hF,hE⟩:=hf;have HF:=hid hF;have HE:=hid hE;clear hF hE hs ht herr hw ho;have aB:=hid (brw w);go_enter func163,ntmps163;(go_upto_region 3 with fail);have a8:=hid (HF.out.range 43 132 (by omega));go_wp2_with (refine wpList_load_mid rfl 113 _ rfl b 43 rfl (yS M 43 132) _ a8.out Tryz.uUsers rfl (by rw[Tryz.zUsers,nQ]) ?_);clear a8 b8
 go_loopg[3,4,22] 6 (fun gg s3 s4 ix wr=>∃(k:Nat) (nv uv:lN) (ps:List (lN×Usr)),gg=6-k/\k<=6/\ix=kW lD k/\nv=s3/\uv=s4/\Hid (ps.map (·.2)=(nsF F.ut k).map (askU F))/\Hid (Li w.heap.size wr nv (zV (nsF F.ut k)))/\Hid (UOw w.heap.size wr uv ps)/\Hid (∀p,p∈ps->∀g,p.1.ownBlock=lJ g->Value.ownBlock nv≠lJ g)/\Hid (Below w.heap.size w wr))
 case atStart=>exact⟨0,kX lI 0 0,kX lI 0 0,[],rfl,by omega,rfl,rfl,rfl,rfl,Li.nil _ _,UOw.nil _ _,fun p hp=>(by cases hp),aB.out⟩
 case round=>
  clear aB;obtain⟨k,nv,uv,ps,cz,hk,rfl,rfl,rfl,XE,XN,XU,XS,Z⟩:=hrel;by_cases aR:k<6
  ·(have cB:(k:Int)<6:=by omega);(have cv:(k:Int)<=1000:=by omega);have co:=pU HE.out aR;(go_upto_region 6 with (refine pJ rfl 112 _ _ rfl _ (zH F k) rfl rfl Tryz.zUser rfl (pO F k) ?_;simp only[Act.put,el,es,eu]));have O:=hid (i1 wr (zH F k) 112);have s:=hid (XN.out.alloc (lE (zH F k) 112));have A:=hid (XU.out.alloc (lE (zH F k) 112));have o:=hid (Z.out.alloc Z.out.size (lE (zH F k) 112));have cH:=Z.out.size;clear XN XU Z;obtain ⟨V2,hV⟩:∃ V2,V2=(wr.alloc (lE (zH F k) 112)):=⟨_,rfl⟩;rw[<-hV] at O s A o ⊢;clear hV;obtain ⟨ub,bF⟩:∃ ub,ub=wr.heap.size:=⟨_,rfl⟩;rw[<-bF] at O ⊢;clear bF co;have c0:lH V2 ⟨ub,0,lI⟩=lJ (kZ (F.ut k)):=O.out.cell 0 _ rfl;have lu:=O.out.lt
   cases E:F.ut k with
   |false=>(have aE:Hid (ps.map (·.2)=(nsF F.ut (k+1)).map (askU F)):=by unfold Hid;rw[pH E];exact XE.out);(have bM:Hid (Li w.heap.size V2 nv (zV (nsF F.ut (k+1)))):=by unfold Hid;rw[pH E];exact s.out);rw[E]at c0;clear E;go_wp2;go_roundg (6-(k+1));(case measure=>omega);case rel=>exact⟨k+1,nv,uv,ps,rfl,by omega,by go_num,rfl,rfl,aE.out,bM.out,A.out,XS.out,o.out⟩
   | true=>
    have J:=hid E;rw[E]at c0;clear E;(go_upto_region 7 with fail);clear c0;(have br:V2.rangeAt ub 0 (zH F k).toList:=fun j v hv=>by have r:=O.out.cell j v (by simpa using hv);rw[eC];exact r);have ba:=hid br;clear br O;obtain⟨du,bw,bC⟩:=Tryz.uUser;have aY:=hid bw;have a9:=hid bC;clear bw bC;go_wp2_with (refine wpList_load_mid rfl 112 _ rfl ub 0 rfl (zH F k).toList _ ba.out aY.out a9.out (by rw[Tryz.zUser];rfl) ?_);clear lu ba aY a9;refine(Fh (aF.out.iP o.out) a4.out (HW.out k aR) (HO.out k aR)).mono ?_;rintro e7 w7 ⟨d7,rfl,ay,aw⟩;obtain⟨f,d,bv⟩:=ay.kE;rw[JB]at bv;subst bv;(have aI:Hid (∀g,Value.ownBlock (kX f F.k d)=lJ g->nv.ownBlock≠lJ g):=fun g hg hn=>by have h1:=(ay.lt hg).1;have h2:=(s.out.lt hn).2;omega);have bf:=hid (ay.mono o.out.size);have S:=hid (s.out.iP aw);have X:=hid (A.out.iP aw);have H:=hid (o.out.trans (aw.mono (o.out.size)));clear s A o;clear ay aw;(go_upto_region 8 with fail);have N:=hid (i1 w7 #[kX f F.k d,kW lD (F.uw k),kW lD (yk F k)] 56);have t:=hid (S.out.alloc (lE #[kX f F.k d,kW lD (F.uw k),kW lD (yk F k)] 56));have x:=hid (X.out.alloc (lE #[kX f F.k d,kW lD (F.uw k),kW lD (yk F k)] 56));have z:=hid (bf.out.alloc (lE #[kX f F.k d,kW lD (F.uw k),kW lD (yk F k)] 56));have B:=hid (H.out.alloc H.out.size (lE #[kX f F.k d,kW lD (F.uw k),kW lD (yk F k)] 56));have cE:=H.out.size;clear S X bf H;obtain⟨V7,hV⟩:∃V7,V7=(w7.alloc (lE #[kX f F.k d,kW lD (F.uw k),kW lD (yk F k)] 56)):=⟨_,rfl⟩;rw[<-hV]at N t x z B ⊢;clear hV;obtain⟨ab,bu⟩:∃ab,ab=w7.heap.size:=⟨_,rfl⟩;rw[<-bu]at N ⊢;clear bu;have bE:=B.out.size;go_wp2_with (at_builtin;refine CD _ rfl _ _ rfl w.heap.size _ (zV (nsF F.ut k)) ⟨V7.heap.size,0,lI⟩ 1 (k:Int) rfl rfl (t.out.alloc _) ((i1 V7 #[kW lD (k:Int)] 3).cell 0 _ rfl) (by simp only[iv,mA];have r:=oD F.ut k;omega) (by simp only[em];omega) ?_);intro v8 w8 bp ak bI;have aV:=Touch.of_append (t.out.alloc (lE #[kW lD (k:Int)] 3)) ak;have ao:=hid (aV.bx (i7 N.out (lE #[kW lD (k:Int)] 3)) (by decide));have bQ:=hid ((z.out.alloc (lE #[kW lD (k:Int)] 3)).kept ak (fun g hg=>aI.out g hg));have bU:Hid (UOw w.heap.size w8 uv ps):=⟨aV.own (x.out.alloc (lE #[kW lD (k:Int)] 3)).1 (by decide),fun p hp=>((x.out.2 p hp).alloc (lE #[kW lD (k:Int)] 3)).kept ak (fun g hg=>XS.out p hp g hg)⟩;(have bR:Hid (Li w.heap.size w8 v8 (zV (nsF F.ut (k+1)))):=by unfold Hid zV;rw[oG J.out,ii];exact bp);have aK:=hid ((B.out.alloc B.out.size _).trans (tk ak (by simp only[em];omega) (fun g hg=>(t.out.lt hg).1)))
    have bT:Hid (∀p,p∈ps++[(Value.slice f F.k d,askU F k)]->∀g,p.1.ownBlock=lJ g->v8.ownBlock≠lJ g):=by
     intro p hp g hg r
     have cp:g<V7.heap.size/\nv.ownBlock≠lJ g:=by
      rw[iu]at hp;rcases hp with hp|hp
      ·exact⟨((x.out.2 p hp).lt hg).2,XS.out p hp g hg⟩
      ·simp at hp;subst hp;exact⟨(z.out.lt hg).2,aI.out g hg⟩
     rcases bI with h8|h8
     ·exact cp.2 (h8.symm.trans r)
     ·rw[h8]at r;simp only[em,io]at r;omega
    clear bp ak bI aV N t x z B XS aI bE;obtain⟨la,a0,a1,a2⟩:=ao.out.q3 rfl;(have bN:Hid (ps.length<=6):=by unfold Hid;have r:=congrArg List.length XE.out;simp only[iv,mA]at r;have h8:=oD F.ut k;omega);have bE:=aK.out.size;go_wp2_with (at_builtin;refine CE _ rfl _ _ rfl w.heap.size _ ps ⟨w8.heap.size,0,lI⟩ 1 (Value.slice f F.k d,askU F k) rfl rfl (bU.out.alloc _) (bQ.out.alloc _) ((i1 w8 #[kX f F.k d,kW lD (F.uw k),kW lD (yk F k)] 56).cell 0 _ rfl) ((i1 w8 #[kX f F.k d,kW lD (F.uw k),kW lD (yk F k)] 56).cell 1 _ rfl) ((i1 w8 #[kX f F.k d,kW lD (F.uw k),kW lD (yk F k)] 56).cell 2 _ rfl) (by have:=bN.out;omega) (by simp only[em];omega) ?_);intro v9 w9 bq bs bo;have bV:=hid bq;have bS:=hid ((bR.out.alloc (lE #[kX f F.k d,kW lD (F.uw k),kW lD (yk F k)] 56)).kC bs (by decide));have bP:=hid ((aK.out.alloc aK.out.size _).trans bo);(have aE:Hid ((ps++[(Value.slice f F.k d,askU F k)]).map (·.2)=(nsF F.ut (k+1)).map (askU F)):=by unfold Hid;rw[oG J.out,ii,ii,XE.out];rfl);clear bq bs bo a0 a1 a2 la;go_wp2;go_roundg (6-(k+1));(case measure=>omega);case rel=>exact⟨k+1,v8,v9,ps++[(Value.slice f F.k d,askU F k)],rfl,by omega,by go_num,rfl,rfl,aE.out,bS.out,bV.out,bT.out,bP.out⟩
  ·(obtain rfl:k=6:=by omega);clear XS;(go_upto_region 11 with fail);have p0:=(Z.out.cell (p:=⟨sb,1,lI⟩) af).trans (ah.out.cell 1 _ rfl);have p1:=(Z.out.cell (p:=⟨sb,2,lI⟩) af).trans (ah.out.cell 2 _ rfl);have p2:=(Z.out.cell (p:=⟨sb,3,lI⟩) af).trans (ah.out.cell 3 _ rfl);have p3:=(Z.out.cell (p:=⟨sb,4,lI⟩) af).trans (ah.out.cell 4 _ rfl);have ls:=ez af Z.out.size;have aX:=ez lb Z.out.size;(have ck:lH wr ⟨b,0,lI⟩=lJ (kW lD F.k):=by obtain ⟨M2,h1,h2⟩:=aF.out.iP Z.out;rw[h1.cell (by omega),h2.k]);(have SK:Hid (∀ U,Below wr.heap.size wr U->lH U ⟨sb,1,lI⟩=lJ (kW lD (P 0))/\lH U ⟨sb,2,lI⟩=lJ (kW lD (P 1))/\lH U ⟨sb,3,lI⟩=lJ (kW lD (P 2))/\lH U ⟨sb,4,lI⟩=lJ (kW lD (P 3))/\lH U ⟨b,0,lI⟩=lJ (kW lD F.k)):=fun U h=>⟨(h.cell (p:=⟨sb,1,lI⟩) ls).trans p0,(h.cell (p:=⟨sb,2,lI⟩) ls).trans p1,(h.cell (p:=⟨sb,3,lI⟩) ls).trans p2,(h.cell (p:=⟨sb,4,lI⟩) ls).trans p3,(h.cell (p:=⟨b,0,lI⟩) aX).trans ck⟩);(have KC:Hid (∀ U,Below wr.heap.size wr U->Calls prog 180 #[lA (av P),kW lD F.k] U (fun e w'=>∃ v,e = lF v/\Li wr.heap.size w' v (zu P F.k)/\Below wr.heap.size wr w')):=fun U hU=>(tW a4.out).mono (fun e w' ⟨v,h1,h2,h3⟩=>⟨v,h1,h2.mono hU.size,hU.trans (h3.mono hU.size)⟩));have cc:=((brw wr).drew.cell (p:=⟨sb,1,lI⟩) ls).trans p0;have cd:=((brw wr).drew.cell (p:=⟨sb,2,lI⟩) ls).trans p1;have ce:=((brw wr).drew.cell (p:=⟨sb,3,lI⟩) ls).trans p2;have cf:=((brw wr).drew.cell (p:=⟨sb,4,lI⟩) ls).trans p3;have b9:=((brw wr).drew.cell (p:=⟨b,0,lI⟩) aX).trans ck;go_region_held3 (fun w'=>lH w' ⟨sb,1,lI⟩=lJ (kW lD (P 0))/\lH w' ⟨sb,2,lI⟩=lJ (kW lD (P 1))/\lH w' ⟨sb,3,lI⟩=lJ (kW lD (P 2))/\lH w' ⟨sb,4,lI⟩=lJ (kW lD (P 3))/\lH w' ⟨b,0,lI⟩=lJ (kW lD F.k)) (first | exact SK.out _ brf.drew | exact SK.out _ D) (first | (go_at_call 180;refine (KC.out _ ?hU).mono ?_;(case hU=>exact brf.drew);rintro ct bJ ⟨cK,rfl,aC,D⟩));clear SK KC cc cd ce cf b9;have T:=hid (XN.out.iP D);have Y:=hid (XU.out.iP D);have I:=hid (Z.out.trans (D.mono (Z.out.size)));clear XN XU Z;clear D;clear p0 p1 p2 p3 ls aX ck;obtain ⟨po,pc,rfl,aS⟩:=aC.arr;simp only[JB] at aS ⊢;have a7:=hid aS;clear aS aC;obtain ⟨uo,uc,rfl,aW⟩:=Y.out.kr;(have aT:ps.length=zp F.ut 6:=by have r:=congrArg List.length XE.out;simp only[iv,mA] at r;exact r);rw[show ps.map (·.2)=xi F from XE.out,aT] at aW;rw[aT];have be:=hid aW;clear aW aT;clear Y;go_wp2_with fail;refine (Ep a7.out be.out (bc.out.iP I.out)).mono ?_;intro cx am hS;unfold SolveEnd at hS;rw[ed an.out] at hS;obtain ⟨g,dd,rfl,aP⟩:=hS;have aj:=aP.bel;have W:=hid (T.out.iP aj);have C:Hid (Below (w.heap.size) w am):=I.out.trans (aj.mono (I.out.size));clear T I;obtain ⟨n,hn⟩:∃ n,(xi F).length=n:=⟨_,rfl⟩;(have az:n=zp F.ut 6:=by rw[<-hn];exact pA F);have a5:=hid az;(have bA:(nsF F.ut 6).length=n:=by rw[mA,az]);have aG:=hid bA;(have cw:n<=6:=by rw[az];exact oD F.ut 6);have aU:=aP.sh;rw[hn] at aU ⊢;have aJ:=hid aU;clear aP aU aj hn az bA a7 be;generalize yb dd (yB (zu P F.k) (xi F))=stp at aJ;(have aZ:Hid (FL am b (withD F (dUp F P 0))):=by unfold Hid;rw[AG];exact aF.out.iP C.out);(have bb:Hid (Bx am sb (zq b P (gUp F P 0)) 165):=by unfold Hid;rw[AM];exact ah.out.iP C.out af);have bd:=hid (bc.out.iP C.out);have a6:Hid (Only2 w.heap.size b sb w am):=Only2.jE b sb C.out;have aH:Hid (Li w.heap.size am nv (zV (nsF F.ut 6))):=W.out;clear C W;obtain ⟨no,nc,bB⟩:=aH.out.kE;simp only[iv,aG.out] at bB;subst bB;go_wp2
   go_loopg[58] n (fun gg ix wq=>∃i:Nat,gg=n-i/\i<=n/\ix=kW lD i/\Hid (FL wq b (withD F (dUp F P i)))/\Hid (Bx wq sb (zq b P (gUp F P i)) 165)/\Hid (ShB wq g n n (yB (zu P F.k) (xi F)).ts (yB (zu P F.k) (xi F)).lv stp)/\Hid (Li w.heap.size wq (kX no n nc) (zV (nsF F.ut 6)))/\Hid (Tab wq)/\Hid (Only2 w.heap.size b sb w wq))
   case atStart=>exact⟨0,rfl,ep _,rfl,aZ.out,bb.out,aJ.out,aH.out,bd.out,a6.out⟩
   case round=>
    clear aZ bb aJ aH bd a6;obtain⟨i,cy,hi,rfl,YF,YS,YH,YN,YT,YO⟩:=hrel;by_cases bz:i<n
    ·(have cA:(i:Int)<(n:Int):=by omega);(have cu:(i:Int)<=1000:=by omega);(have aQ:i<(nsF F.ut 6).length:=by rw[aG.out];exact bz);obtain⟨u,bG⟩:∃u,(nsF F.ut 6)[i]=u:=⟨_,rfl⟩;obtain⟨G,E⟩:=qj 6 (ij aQ);have al:=Ie aQ;rw[bG]at G E al;(have cD:(u:Int)<6:=by omega);have ag:=hid al;have J:=hid E;clear al E;obtain⟨s0,s1,s2⟩:=YH.out.cells bz;have lg:=YH.out.lt;(have bL:Hid ((yB (zu P F.k) (xi F)).ts i=yU F P u):=by unfold Hid yU;rw[ag.out]);(go_upto_region 16 with fail);clear s0 s1 s2 lg;rw[bL.out];obtain⟨L,au⟩:∃V,V=wr.alloc (lE #[lC ⟨(txt (yU F P u)).toArray⟩,lC ⟨(txt ((yB (zu P F.k) (xi F)).lv i)).toArray⟩,kW lD (stp i)] 35):=⟨_,rfl⟩;(have R:Below wr.heap.size wr L:=by rw[au];exact brf.alloc lR _);(have ad:Hid (Bx L wr.heap.size #[lC ⟨(txt (yU F P u)).toArray⟩,lC ⟨(txt ((yB (zu P F.k) (xi F)).lv i)).toArray⟩,kW lD (stp i)] 35):=by unfold Hid;rw[au];exact i1 wr _ _);rw[<-au];have Q:=hid (YF.out.iP R);have bl:=hid (YS.out.ji R);have aL:=hid (YH.out.iP R);have aM:=hid (YN.out.iP R);have bm:=hid (YT.out.iP R);have bk:Hid (Only2 w.heap.size b sb w L):=YO.out.trans (Only2.jE b sb (R.mono YO.out.size));obtain⟨cb,ax⟩:∃c,c=wr.heap.size:=⟨_,rfl⟩;rw[<-ax]at ad ⊢;clear au R YF YS YH YN YT YO ax;obtain⟨cJ,cI,bH,ac⟩:=aM.out.row;simp only[iv,aG.out,iV]at bH ac;obtain⟨rfl,_,rfl⟩:=bH;obtain⟨ga,oa,aA,cm⟩:=ac.head (by omega);have cg:=ac.cell ga oa aA i (by first|omega|(simp;omega));rw[uk _ aQ,bG]at cg;clear ac;rw[aA];(go_upto_region 17 with fail);rw[<-aA];clear cg cm aA;obtain⟨lx,x0⟩:=ad.out.q1 rfl;obtain⟨ca,zd⟩:=Q.out.cDue G;have cr:=Q.out.lt;go_region;clear x0 lx ca zd cr;have ax:cb≠b:=Q.out.kH ad.out (by decide);(have cl:g≠b:=by obtain⟨ar,h1,_⟩:=aL.out;exact Q.out.ne_of h1 (by decide));(have bg:Hid (FL (lG L ⟨b,43+u*22+16,lI⟩ (lC ⟨(txt (yU F P u)).toArray⟩)).drew b (withD F (dUp F P (i+1)))):=by have r:=Q.out.setDue G ⟨(txt (yU F P u)).toArray⟩;rw[show yR (withD F (dUp F P i)).due u ⟨(txt (yU F P u)).toArray⟩=dUp F P (i+1)from by have h8:=AZ (F:=F) (P:=P) G J.out;rw[ag.out]at h8;exact h8]at r;exact r);have ae:Hid (Bx (lG L ⟨b,43+u*22+16,lI⟩ (lC ⟨(txt (yU F P u)).toArray⟩)).drew sb (zq b P (gUp F P i)) 165):=bl.out.jx ⟨b,43+u*22+16,lI⟩ (lC ⟨(txt (yU F P u)).toArray⟩) (fun e=>bD e.symm);have ap:Hid (Bx (lG L ⟨b,43+u*22+16,lI⟩ (lC ⟨(txt (yU F P u)).toArray⟩)).drew cb #[lC ⟨(txt (yU F P u)).toArray⟩,lC ⟨(txt ((yB (zu P F.k) (xi F)).lv i)).toArray⟩,kW lD (stp i)] 35):=ad.out.jx ⟨b,43+u*22+16,lI⟩ (lC ⟨(txt (yU F P u)).toArray⟩) (fun e=>ax e.symm);have bh:Hid (ShB (lG L ⟨b,43+u*22+16,lI⟩ (lC ⟨(txt (yU F P u)).toArray⟩)).drew g n n (yB (zu P F.k) (xi F)).ts (yB (zu P F.k) (xi F)).lv stp):=aL.out.set ⟨b,43+u*22+16,lI⟩ (lC ⟨(txt (yU F P u)).toArray⟩) cl;(have bj:Hid (Li w.heap.size (lG L ⟨b,43+u*22+16,lI⟩ (lC ⟨(txt (yU F P u)).toArray⟩)).drew (kX no n nc) (zV (nsF F.ut 6))):=by have r:=aM.out.only lb ((Only.refl L.heap.size b L).setCell _ (43+u*22+16) (lC ⟨(txt (yU F P u)).toArray⟩)) lR;exact r);have aO:Hid (Tab (lG L ⟨b,43+u*22+16,lI⟩ (lC ⟨(txt (yU F P u)).toArray⟩)).drew):=(bm.out.only Q.out ((Only.refl L.heap.size b L).setCell _ (43+u*22+16) (lC ⟨(txt (yU F P u)).toArray⟩)) lR).drew;(have aN:Hid (Only2 w.heap.size b sb w (lG L ⟨b,43+u*22+16,lI⟩ (lC ⟨(txt (yU F P u)).toArray⟩)).drew):=by have r:=bk.out.setL (43+u*22+16) (lC ⟨(txt (yU F P u)).toArray⟩);exact⟨r.os,r.tape,r.output,r.size,r.block⟩);(go_upto_region 18 with fail);obtain⟨K,bt⟩:∃V,V=(lG L ⟨b,43+u*22+16,lI⟩ (lC ⟨(txt (yU F P u)).toArray⟩)).drew:=⟨_,rfl⟩;rw[<-bt]at bg ae ap bh bj aO aN ⊢;clear bt Q bl ad aL aM bm bk;have bO:=hid (A4 an.out G J.out);have a3:=hid (tK an.out G J.out);have bK:=hid (BG an.out G J.out);obtain⟨q,hq⟩:∃q:Nat,flZ (yU F P u)=(q:Int):=⟨(flZ (yU F P u)).toNat,by have:=a3.out;omega⟩;(have cq:q<10000:=by have h1:=a3.out;have h2:=bK.out;omega);have HQ:=hid hq;clear hq;have aD:=hid (brw K);obtain⟨lx,x0⟩:=ap.out.q1 rfl;have cj:cb≠sb:=ae.out.ne_of ap.out (by decide);(have SK:Hid (∀U,Below K.heap.size K U->lH U ⟨cb,0,lI⟩=lJ (lC ⟨(txt (yU F P u)).toArray⟩)):=fun U h=>(h.cell (p:=⟨cb,0,lI⟩) lx).trans x0);have ch:K.drew.cell? ⟨cb,0,lI⟩=lJ (lC ⟨(txt (yU F P u)).toArray⟩):=((brw K).drew.cell (p:=⟨cb,0,lI⟩) lx).trans x0;go_region_held3 (fun w'=>lH w' ⟨cb,0,lI⟩=lJ (lC ⟨(txt (yU F P u)).toArray⟩)) (first|exact SK.out _ brf.drew|exact SK.out _ l|exact(oM cj).trans (SK.out _ l)) (first|(go_at_call 181;refine(DU bO.out HQ.out cq (aO.out.iP (brw K).drew)).mono ?_;rintro ci a ⟨rfl,aa⟩;have l:Below K.heap.size K a:=(brw K).drew.trans (aa.mono ((brw K).drew).size);clear aa;have k0:=(ae.out.ji l).cell (5+u) _ (sP _ _ _ G);have z0:=(ae.out.ji l).frozen (5+u);have cs:=(ae.out.ji l).lt));clear SK ch;have y:Hid (Below (K.heap.size) K a):=aD.out.trans (l.mono (aD.out.size));clear aD;clear k0 z0 cs x0 lx;have bW:=hid (bg.out.iP y.out);have aq:=hid (ae.out.ji y.out);have bi:=hid (bh.out.iP y.out);have b0:=hid (bj.out.iP y.out);have b6:=hid (aO.out.iP y.out);have b2:Hid (Only2 w.heap.size b sb w a):=aN.out.trans (Only2.jE b sb (y.out.mono aN.out.size));(have cn:g≠sb:=by obtain⟨ar,h1,_⟩:=bi.out;exact aq.out.ne_of h1 (by decide));(have bX:Hid (FL (lG a ⟨sb,5+u,lI⟩ (kW lD (q:Int))) b (withD F (dUp F P (i+1)))):=by obtain⟨M2,h1,h2⟩:=bW.out;exact⟨M2,(eT _ _ _ b (fun e=>bD e.symm)).trans h1,h2⟩);(have b4:Hid (Bx (lG a ⟨sb,5+u,lI⟩ (kW lD (q:Int))) sb (zq b P (gUp F P (i+1))) 165):=by have r:=j6 aq.out (5+u) (kW lD (q:Int));rw[DP _ _ _ G,show zE (gUp F P i) u (q:Int)=gUp F P (i+1)from by have h8:=AP (F:=F) (P:=P) G J.out;rw[ag.out,HQ.out]at h8;exact h8]at r;exact r);have bZ:Hid (ShB (lG a ⟨sb,5+u,lI⟩ (kW lD (q:Int))) g n n (yB (zu P F.k) (xi F)).ts (yB (zu P F.k) (xi F)).lv stp):=bi.out.set ⟨sb,5+u,lI⟩ (kW lD (q:Int)) cn;have b1:Hid (Li w.heap.size (lG a ⟨sb,5+u,lI⟩ (kW lD (q:Int))) (kX no n nc) (zV (nsF F.ut 6))):=b0.out.set aq.out (by decide) (5+u) (kW lD (q:Int));have b7:Hid (Tab (lG a ⟨sb,5+u,lI⟩ (kW lD (q:Int)))):=b6.out.set aq.out rfl (by simp) (5+u) (kW lD (q:Int));have b3:Hid (Only2 w.heap.size b sb w (lG a ⟨sb,5+u,lI⟩ (kW lD (q:Int)))):=b2.out.setR (5+u) (kW lD (q:Int));go_wp2;go_roundg (n-(i+1));(case measure=>omega);case rel=>exact⟨i+1,rfl,by omega,by go_num,bX.out,b4.out,bZ.out,b1.out,b7.out,b3.out⟩
    ·(obtain rfl:i=n:=by omega);(have cC:¬ ((i:Int)<(i:Int)):=by omega);(have bY:Hid (FL wr b (withD F (xU F P))):=by have r:=YF.out;rw[a5.out,Bu]at r;exact r);(have b5:Hid (Bx wr sb (zq b P (zm F P)) 165):=by have r:=YS.out;rw[a5.out,BN]at r;exact r);go_wp2;go_end0;exact⟨rfl,bY.out,b5.out,YT.out,YO.out⟩
structure FReady (F:Flt):Prop where
  k4:F.k<=4
  st:FStat F (zB F 8)
  er:zr (zu (zB F 8) F.k) (xi F)=0
  go:FGo (zC F (zB F 8) (zm F (zB F 8))) F.m
  ok:FOk (zC F (zB F 8) (zm F (zB F 8)))
variable{z s:FM}
theorem Aq {c:FC} (ho:FOk c) (h:FGo c s) (hi:Iter (zW c) s z):lack c z<=lack c s:=
  (hi.inv (P:=fun x=>FGo c x/\lack c x<=lack c s) (fun a t h1 h2=>by
    refine⟨h1.1.goal ho h2,?_⟩
    obtain⟨u,m,l,g⟩:=mV h1.1.kx.inv h2
    have:=g.lack;have:=h1.2;omega) ⟨h,ik _⟩).2
theorem tm {c:FC} (h:FGo c s) (hi:Iter (zw c) s z):FGo c z/\lack c z<=lack c s:=
  hi.inv (P:=fun x=>FGo c x/\lack c x<=lack c s) (fun a t h1 h2=>by
    refine⟨h1.1.fill h2,?_⟩
    obtain⟨u,m,f⟩:=mW h2
    have:=f.lack;have:=h1.2;omega) ⟨h,ik _⟩
theorem vR (sb b:Nat) (F:Flt) (s:FM) (P G:Nat->Int) (w:lM) (hs:Bx w sb (zq b P G) 165) (hf:FL w b (withM F s)) (hz:FStat F P) (hg:FGo (zC F P G) s) (ho:FOk (zC F P G)) :
    Calls prog 164 #[kY (lJ ⟨sb,0,lI⟩)] w fun e w'=>e=lF (kZ (zW (zC F P G) s).isSome)/\∃z,FL w' b (withM F z)/\Iter (zW (zC F P G)) s z/\FGo (zC F P G) z/\Only w.heap.size b w w':=Da (sb:=sb) (b:=b) (F:=withM F s) (P:=P) (G:=G) (w:=w) hs hf (hz.with s) hg ho
theorem z7 (sb b:Nat) (F:Flt) (s:FM) (P G:Nat->Int) (w:lM) (hs:Bx w sb (zq b P G) 165) (hf:FL w b (withM F s)) (hz:FStat F P) (hg:FGood (zC F P G) s) :
    Calls prog 165 #[kY (lJ ⟨sb,0,lI⟩)] w fun e w'=>e=lF (lB #[])/\∃z,FL w' b (withM F z)/\Iter (zw (zC F P G)) s z/\FGood (zC F P G) z/\Only w.heap.size b w w':=EI hs hf (hz.with s) hg
theorem D5 (hf:FL w b F)(hr:FReady F)(ht:Tab w):Calls prog 132 #[kY (lJ ⟨b,0,lI⟩)] w fun e w'=>e=lF (lB #[])/\∃z,FL w' b (withM (withD F (xU F (zB F 8))) z)/\Settles (zC F (zB F 8) (zm F (zB F 8))) F.m z/\FGo (zC F (zB F 8) (zm F (zB F 8))) z/\Tab w'/\Only w.heap.size b w w':=by
 have lb:=hf.lt;have az:=(hr.st.sz hr.go.kx).sm;have HD:FStat (withD F (xU F (zB F 8))) (zB F 8):=⟨hr.st.ms,hr.st.ud,hr.st.uw,hr.st.kq⟩;have f:=brw w;go_enter func132,ntmps132;go_wp2_with fail;refine(Bg hf az).mono ?_;rintro e1 P ⟨rfl,ag⟩;have d:=f.trans (ag.mono (f.size));clear f;clear ag;(go_upto_region 1 with fail);have i:=i1 P (zq b (zB F 8) (fun _=>0)) 165;have a:=d.alloc d.size (lE (zq b (zB F 8) (fun _=>0)) 165);have aw:=d.size;clear d;generalize P.alloc (lE (zq b (zB F 8) (fun _=>0)) 165)=V at i a ⊢;obtain⟨B,N⟩:∃B,B=P.heap.size:=⟨_,rfl⟩;(have aG:w.heap.size<=B:=by rw[N];exact aw);rw[<-N]at i ⊢;clear N aw;go_wp2_with fail;refine(CW i (hf.iP a) (ht.iP a) hr.k4 hr.er (fun u hu=>by have:=hr.go.kx.kV hu;omega) (fun u hu m hm=>by have:=hr.go.kx.on hu hm;omega)).mono ?_;rintro e2 w2 ⟨rfl,ah,ar,au,aq⟩;have G:=(Only.jE b a).trans (aq.only a.size aG);clear aq i a;go_wp2_with fail;refine(vR B b (withD F (xU F (zB F 8))) F.m (zB F 8) (zm F (zB F 8)) _ ar ah HD hr.go hr.ok).mono ?_;rintro e3 w3 ⟨rfl,z3,ai,ao,am,v⟩;have p:=ar.onlyF ah (by decide) v ar.lt;have ad:=au.only ah v lR;have H:=G.trans (v.mono G.size);clear v ah ar au G;go_wp2_with fail;refine(z7 B b (withD F (xU F (zB F 8))) z3 (zB F 8) (zm F (zB F 8)) _ p ai HD am.kx).mono ?_;rintro e4 w4 ⟨rfl,z4,aj,K,_,x⟩;have U:=tm am K;have ab:=p.onlyF ai (by decide) x p.lt;have ae:=ad.only ai x lR;have aa:=H.trans (x.mono H.size);clear x ai p ad H;(have Q:∀z,Outer (zC F (zB F 8) (zm F (zB F 8))) z4 z->Settles (zC F (zB F 8) (zm F (zB F 8))) F.m z:=fun z h=>⟨z3,z4,ao,K,h⟩);go_wp2
 go_loopg[] (lack (zC F (zB F 8) (zm F (zB F 8))) z4).toNat (fun gg wr=>∃s:FM,gg=(lack (zC F (zB F 8) (zm F (zB F 8))) s).toNat/\(∀z,Outer (zC F (zB F 8) (zm F (zB F 8))) s z->Settles (zC F (zB F 8) (zm F (zB F 8))) F.m z)/\FGo (zC F (zB F 8) (zm F (zB F 8))) s/\FL wr b (withM (withD F (xU F (zB F 8))) s)/\Bx wr B (zq b (zB F 8) (zm F (zB F 8))) 165/\Tab wr/\Only w.heap.size b w wr)
 case atStart=>exact⟨z4,rfl,Q,U.1,aj,ab,ae,aa⟩
 case round=>
  clear Q U aj ab ae aa ao am;obtain⟨s,aH,YB,D,l,q,af,I⟩:=hrel;go_wp2_with fail;refine(vR B b (withD F (xU F (zB F 8))) s (zB F 8) (zm F (zB F 8)) _ q l HD D hr.ok).mono ?_;rintro e6 w6 ⟨rfl,z6,ak,ap,an,y⟩;have r:=q.onlyF l (by decide) y q.lt;have J:=af.only l y lR;have n:=I.trans (y.mono I.size);clear y l q af I
  cases hp:zW (zC (withD F (xU F (zB F 8))) (zB F 8) (zm F (zB F 8))) s with
  |none=>have M:=hp;obtain rfl:s=z6:=(Iter.done M).det ap;have HO:=YB s (.done M);clear hp M;simp only[ju];go_wp2;go_end0;exact⟨rfl,s,ak,HO,an,J,n⟩
  |some t=>simp only[jm];have S:=Iter.part ap hp;go_wp2_with fail;refine(z7 B b (withD F (xU F (zB F 8))) z6 (zB F 8) (zm F (zB F 8)) _ r ak HD an.kx).mono ?_;rintro e7 w7 ⟨rfl,O,al,L,_,A⟩;have W:=tm an L;have aE:=r.onlyF ak (by decide) A r.lt;have aF:=J.only ak A lR;have aD:=n.trans (A.mono n.size);clear A ak r J n;(have ax:∀z,Outer (zC F (zB F 8) (zm F (zB F 8))) O z->Settles (zC F (zB F 8) (zm F (zB F 8))) F.m z:=fun z h=>YB z (.more hp S L h));(have ay:(lack (zC F (zB F 8) (zm F (zB F 8))) O).toNat<gk:=by obtain⟨u9,m9,l9,g9⟩:=mV D.kx.inv hp;have h1:=g9.lack;have h2:=Aq hr.ok (D.goal hr.ok hp) S;have h3:lack (zC F (zB F 8) (zm F (zB F 8))) O<=lack (zC F (zB F 8) (zm F (zB F 8))) z6:=W.2;have h4:=pS (zC F (zB F 8) (zm F (zB F 8))) O;omega);go_wp2;go_roundg (lack (zC F (zB F 8) (zm F (zB F 8))) O).toNat;(case measure=>exact ay);case rel=>exact⟨O,rfl,ax,W.1,al,aE,aF,aD⟩
structure FWf (R:Int)(F:Flt):Prop where
  k1:1<=F.k
  k4:F.k<=4
  mg:F.mg<=8
  ug:F.ug<=6
  mt:∀i,i<8->F.mt i=lK->i<F.mg
  ut:∀u,u<6->F.ut u=lK->u<F.ug
  ms:∀i,i<8->∀r,r<4->0<=F.ms i r/\F.ms i r<=1000
  msz:∀i,i<8->F.mt i=lL->∀r,r<4->F.ms i r=0
  msk:∀i,i<8->∀r,r<4->F.k<=r->F.ms i r=0
  ud:∀u,u<6->∀r,r<4->0<=F.ud u r/\F.ud u r<=10000
  udk:∀u,u<6->∀r,r<4->F.k<=r->F.ud u r=0
  want:∀u,u<6->F.ut u=lK->∃r,r<F.k/\0<F.ud u r
  uw:∀u,u<6->0<=F.uw u/\F.uw u<=100
  uw1:∀u,u<6->F.ut u=lK->1<=F.uw u
  uc:∀u,u<6->0<=F.uc u/\F.uc u<=1000
  on:∀u,u<6->∀m,m<8->0<=F.m.on u m
  kV:∀u,u<6->0<=F.m.kV u
  none:∀u,u<6->F.ut u=lL->F.m.kV u+runs F.m u=0
  gone:∀m,m<8->F.mt m=lL->∀u,u<6->F.m.on u m=0
  kw:∀m,m<8->∀r,r<4->Por.sumI (fun u=>F.ud u r*F.m.on u m) 6<=F.ms m r
  tot:∀u,u<6->F.m.kV u+runs F.m u<=40
  ky:∀u,u<6->0<=F.m.ky u/\F.m.ky u<=R
  ck:0<=F.ck/\F.ck<=1000000
  ks:∀u,u<6->∀r,r<4->0<=F.ks u r/\F.ks u r<=400000*F.ck
  ku:∀r,r<4->0<=F.ku r/\F.ku r<=8000*F.ck
variable{R:Int}
theorem FWf.runs0 (h:FWf R F)(hu:u<6):0<=runs F.m u:=JQ (fun i hi=>h.on u hu i hi)
theorem FWf.on40 (h:FWf R F){m:Nat}(hu:u<6)(hm:m<8):0<=F.m.on u m/\F.m.on u m<=40:=by
 have b:=h.on u hu m hm;have c:=l8 (f:=F.m.on u) (n:=8) (fun j hj=>h.on u hu j hj) hm;have a:=h.tot u hu;have d:=h.kV u hu;unfold runs at a;omega
theorem FWf.wait40 (h:FWf R F)(hu:u<6):0<=F.m.kV u/\F.m.kV u<=40:=by
 have a:=h.kV u hu;have b:=h.runs0 hu;have c:=h.tot u hu;omega
theorem FWf.sm (h:FWf R F):FSm F:=⟨h.ms,h.ud,fun u hu m hm=>h.on40 hu hm⟩
theorem FWf.stat (h:FWf R F):FStat F (zB F 8):=⟨h.ms,h.ud,h.uw,fun r hr=>nI h.sm (ea 8) hr⟩
theorem BW {a:Nat->Int}{p:Int->Bool}(h:∀r,r<k->p (a r)=lK):(zu a k).all p=lK:=by
 rw[ie];intro x b;unfold zu at b;rw[jB]at b;obtain⟨r,c,rfl⟩:=b;exact h r (iW.1 c)
theorem B9 (h:FWf R F)(hu:u<6):0<=yk F u/\yk F u<=40/\yk F u<=F.m.kV u+runs F.m u/\yk F u<=F.uc u:=by
 have a:=h.uc u hu;have b:=h.kV u hu;have c:=h.runs0 hu;have d:=h.tot u hu;unfold yk;split<;>omega
theorem FWf.err (h:FWf R F):zr (zu (zB F 8) F.k) (xi F)=0:=by
 (have f:xL (zu (zB F 8) F.k)=lK:=by unfold xL yw;rw[JB,ei ⟨h.k1,h.k4⟩,Bool.true_and];refine BW (fun r c=>?_);have:=h.stat.kq r (by have:=h.k4;omega);unfold yG;exact ei (by omega));have j:(xi F).length<=6:=by rw[pA];exact oD _ _
 have g:(xi F).all (yY (zu (zB F 8) F.k).length)=lK:=by
  rw[JB,ie];intro x e;unfold xi at e;rw[jB]at e;obtain⟨u,i,rfl⟩:=e;obtain⟨a,b⟩:=qj 6 i;have l:=B9 h a;have m:=h.uw u a;have n:=h.uw1 u a b;obtain⟨r,c,d⟩:=h.want u a b;unfold yY askU;simp only[JB,decide_true,Bool.true_and,eJ,eN];refine⟨⟨by omega,BW (fun r c=>?_)⟩,?_⟩
  ·have:=h.ud u a r (by have:=h.k4;omega);unfold yG;exact ei (by omega)
  ·unfold xS;rw[List.any_eq_true];exact⟨F.ud u r,List.mem_of_getElem? (nZ (F.ud u) c),ei d⟩
 unfold zr;rw[f,g,ec (by simp),ec (by omega),ec (by simp)]
theorem FWf.goal (h:FWf R F)(hu:u<6):0<=zm F (zB F 8) u/\zm F (zB F 8) u<=40/\zm F (zB F 8) u<=F.m.kV u+runs F.m u:=by
 unfold zm;by_cases a:u<6/\F.ut u=lK
 ·rw[ed a];have b:=tK h.err hu a.2;have c:=B9 h hu;omega
 ·rw[ec a];have b:=h.kV u hu;have c:=h.runs0 hu;omega
noncomputable abbrev cF (F:Flt):FC:=zC F (zB F 8) (zm F (zB F 8))
theorem FWf.finv (h:FWf R F):FInv (cF F) F.m:=
  ⟨h.on,h.kV,fun m hm r hr=>by
    show 0<=F.ms m r-Por.sumI (fun u=>F.ud u r*F.m.on u m) 6
    have:=h.kw m hm r hr;omega,fun u hu=>(h.goal hu).2.2,h.gone⟩
theorem FWf.fok (h:FWf R F):FOk (cF F):=⟨fun u hu r hr=>(h.ud u hu r hr).1,fun u hu=>(h.goal hu).1⟩
theorem FWf.lack (h:FWf R F):lack (cF F) F.m<=240:=by
 have:=mD (f:=fun u=>max 0 ((cF F).goal u-runs F.m u)) (n:=6) (B:=40) (fun u hu=>by
  show max 0 (zm F (zB F 8) u-runs F.m u)<=40
  have a:=h.goal hu
  have b:=h.runs0 hu
  omega)
 exact this
theorem FWf.ready (h:FWf R F)(hR:R<=999999999999990000):FReady F:=by
 refine⟨h.k4,h.stat,h.err,⟨⟨h.finv,h.tot,fun u hu=>(h.ky u hu).1⟩,fun u hu=>?_⟩,h.fok⟩;have a:=h.lack;have b:=(h.ky u hu).2;change F.m.ky u+40*Por.lack (cF F) F.m<=_;omega
theorem FWf.settled (h:FWf R F)(hs:Settles (cF F) F.m z)(D:Nat->ByteArray):FWf (R+9600) (withM (withD F D) z):=by
 have a:=hs.finv h.fok h.finv;have b:=hs.tasks h.fok h.finv;(have c:∀u,u<6->z.ky u<=R+9600:=fun u hu=>by have f:=hs.revs h.fok h.finv (T:=40) h.tot u hu;have g:=h.lack;have i:=(h.ky u hu).2;omega);have d:=hs.gentle h.fok h.finv;refine⟨h.k1,h.k4,h.mg,h.ug,h.mt,h.ut,h.ms,h.msz,h.msk,h.ud,h.udk,h.want,h.uw,h.uw1,h.uc,a.on,a.kV,fun u hu ht=>?_,a.gone,fun m hm r hr=>?_,fun u hu=>?_,fun u hu=>⟨?_,c u hu⟩,h.ck,h.ks,h.ku⟩
 ·show z.kV u+runs z u=0;rw[b u];exact h.none u hu ht
 ·have e:=a.kw m hm r hr;change 0<=F.ms m r-Por.sumI (fun u=>F.ud u r*z.on u m) 6 at e;show Por.sumI (fun u=>F.ud u r*z.on u m) 6<=F.ms m r;omega
 ·show z.kV u+runs z u<=40;rw[b u];exact h.tot u hu
 ·have:=d.ky u hu;have:=(h.ky u hu).1;show 0<=z.ky u;omega
theorem FWf.mono {S:Int} (h:FWf R F) (hR:R<=S):FWf S F:=
  ⟨h.k1,h.k4,h.mg,h.ug,h.mt,h.ut,h.ms,h.msz,h.msk,h.ud,h.udk,h.want,h.uw,h.uw1,h.uc,h.on,h.kV,h.none,h.gone,h.kw,h.tot,fun u hu=>⟨(h.ky u hu).1,by have:=(h.ky u hu).2;omega⟩,h.ck,h.ks,h.ku⟩
def Settled (F G:Flt):Prop:=∃z,G=withM (withD F (xU F (zB F 8))) z/\Settles (cF F) F.m z
theorem nT (b:Nat) (R:Int) (F:Flt) (w:lM) (hf:FL w b F) (hr:FWf R F) (hR:R<=999999999999990000) (ht:Tab w) :
    Calls prog 132 #[kY (lJ ⟨b,0,lI⟩)] w fun e w'=>e=lF (lB #[])/\∃G,FL w' b G/\Settled F G/\FWf (R+9600) G/\Tab w'/\Only w.heap.size b w w':=
  (D5 hf (hr.ready hR) ht).mono (fun e w' ⟨h1,z,h2,h3,h4,h5,h6⟩=>⟨h1,_,h2,⟨z,rfl,h3⟩,hr.settled h3 _,h5,h6⟩)
end Go.Proofs.YtigokanoflkinaaGreatDoor
