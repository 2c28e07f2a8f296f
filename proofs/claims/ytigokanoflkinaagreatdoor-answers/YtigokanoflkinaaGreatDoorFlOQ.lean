/- FlO, FlP, FlQ, joined. -/
import Derived.Test.YtigokanoflkinaaGreatDoorZI
set_option maxHeartbeats 8000000
set_option maxRecDepth 20000
namespace Go.Proofs.YtigokanoflkinaaGreatDoor
set_option linter.unusedSimpArgs false
set_option linter.unusedVariables false
open Go.RowKit Por Go.Proofs.Tryz
open Value renaming int->kW,slice->kX,pointer->kY,bool->kZ,agg->lA,tuple->lB
open IntKind renaming i64->lD
open Obj renaming cells->lE
open Ending renaming returned->lF
open World renaming setCell->lG,cell?->lH
open Option renaming none->lI,some->lJ
open Bool renaming true->lK,false->lL
open Go renaming World->lM,Value->lN
def Li (base:Nat)(w:lM)(v:lN)(l:List Int):Prop:=w.ownsRow base 3 1 v l.length (l.map (Value.int lD))
theorem Li.nil (base:Nat)(w:lM):Li base w (kX lI 0 0) []:=⟨rfl,.inl ⟨rfl,rfl⟩⟩
variable{base:Nat}{w w':lM}{v:lN}{l:List Int}
theorem Li.iP (h:Li base w v l)(hb:Below w.heap.size w w'):Li base w' v l:=JO h hb
theorem Li.alloc (h:Li base w v l)(o:Obj):Li base (w.alloc o) v l:=h.iP (brf.alloc lR o)
variable{B C:Nat}
theorem Li.kC {T:TypeId}(h:Li B w v l)(ht:Touch T C w w')(hT:3≠T):Li B w' v l:=ht.own h hT
variable{b:Nat}
theorem Li.set {T:TypeId}(h:Li B w v l){cs:Array lN}(hx:Bx w b cs T)(hT:3≠T)(i:Nat)(u:lN):Li B (lG w ⟨b,i,lI⟩ u) v l:=h.kC (Touch.of_set (B:=0) hx (ep _)) hT
theorem Li.mono (h:Li B w v l)(hB:C<=B):Li C w v l:=by
 refine⟨h.1,?_⟩;rcases h.2 with c|⟨g,a,b,c,d,e⟩
 ·exact .inl c
 ·exact .inr ⟨g,a,b,c,eh hB d,e⟩
theorem Li.kE (h:Li base w v l):∃ao cap,v=kX ao l.length cap:=by
 rcases h.2 with⟨rfl,b⟩|⟨g,cap,a,rfl,_⟩
 ·exact⟨lI,0,by rw[b]⟩
 ·exact⟨_,_,rfl⟩
theorem Li.row (h:Li base w v l):∃ao cap,v=kX ao l.length cap/\Row w ao l.length cap l:=by
 obtain⟨m,h⟩:=h;rcases h with⟨rfl,h⟩|⟨g,cap,a,rfl,n,c,f,i,p,k⟩
 ·obtain rfl:l=[]:=iq.1 h;exact⟨lI,0,rfl,Row.nil w⟩
 ·refine⟨_,_,rfl,⟨rfl,f,i,fun _=>⟨g,0,rfl,(ek.1 c).1⟩,fun b o e _=>(by cases e;exact⟨_,_,c⟩),fun b o e j hj=>?_⟩⟩
  cases e
  rw[eC,hH w g j _ _ _ c];(have d:a.toList[j]?=(a.toList.take (l.length*1))[j]?:=by rw[eH,ed (by omega)]);rw[<-eI,d,k,eD];unfold lm;rw[ej,en hj];rfl
theorem sy (w:lM){ops:Array Oper}{rest:List Oper}{o:Oper}{a:Act}{Q:Exit->Act->lM->Prop}(hgd:o.guard=lI)(s x:Operand)(hop:o.op=Op.call {callee:=Callee.builtin Builtin.append,args:=#[s,x],argTypes:=#[22,22]})(base:Nat)(v:lN)(l:List Int)(ad:Addr)(c:Nat)(u:Int)(hs:a.eval s=v)(hx:a.eval x=kX (lJ ad) 1 c)(hown:Li base w v l)(h0:w.cell? (ad.add 0)=lJ (kW lD u))(hle:l.length+1<=1000000)(hb:base<=w.heap.size)(h:∀v' w',Li base w' v' (l++[u])->Touch 3 base w w'->Below base w w'->wpList prog ops Q rest (a.put o.dst v') w'):wpList prog ops Q (o::rest) a w:=by
 obtain⟨i,A,e,f,m⟩:=iM Tryz.infoInt
 have d:∀k,v.ownBlock=lJ k->base<=k:=by
  intro k q;rcases hown.2 with⟨rfl,_⟩|⟨g,t,y,rfl,b,_⟩
  ·cases q
  ·cases q;exact b
 refine jw w hgd s x _ hop base 3 i (kW lD 0) 1 8 eR A e f m rfl (by decide) v l.length _ hs hown ad 1 c [kW lD u] hx (by simp) ?_ ?_ (by unfold maxLen;omega) (by omega) hb ?_
 ·intro j z p
  match j with
  |0=>rw[h0];simpa using p
  |j+1=>simp at p
 ·intro z r;simp at r;subst r;rfl
 ·intro v' w' b n _;refine h v' w' ?_ (Touch.of_append hown n) ((eB base w).grown n hb d);unfold Li;rw[eK,ii];exact b
abbrev zV (l:List Nat):List Int:=l.map (fun(j:Nat)=>(j:Int))
variable{i:Nat}
theorem uk (l:List Nat)(h:i<l.length):lm (zV l) i=((l[i]:Nat):Int):=by
 unfold lm zV;rw[ej,eD,en h];rfl
variable{c:FC}{u:Nat}{L:List Nat}{rm:Nat->Int}
theorem Gw (h:i<L.length)(hb:zU (fun r=>rm r-c.ud L[i] r) (c.ud u) 4=lK):zz c u (L.drop i) rm=zz c u (L.drop (i+1)) (fun r=>rm r-c.ud L[i] r):=by
 rw[js h];simp only[zz];rw[hb];rfl
theorem FP (h:i<L.length)(hb:zU (fun r=>rm r-c.ud L[i] r) (c.ud u) 4=lL):zz c u (L.drop i) rm=L[i]::zz c u (L.drop (i+1)) rm:=by
 rw[js h];simp only[zz];rw[hb];rfl
variable{sb:Nat}{F:Flt}{P G:Nat->Int}
theorem DY {kb:Nat}{q:FK}{ov:lN}{B0:Nat}(hs:Bx w sb (zq b P G) 165)(hk:Bx w kb (yD (F.ud u) q.rm q.kt q.run ov) 217)(hf:FL w b F)(hz:FSm F)(hl:Li B0 w ov (zV q.off))(hj:∀j,j∈q.off->j<6)(hr:∀r,r<4->-10000000<=q.rm r/\q.rm r<=10000000)(hu:∀r,r<4->0<=F.ud u r)(hln:q.off.length<=1000):Calls prog 230 #[kY (lJ ⟨sb,0,lI⟩),kY (lJ ⟨kb,0,lI⟩)] w fun e w'=>∃v,e=lF v/\Li w.heap.size w' v (zV (zz (zC F P G) u q.off q.rm))/\Below w.heap.size w w':=by
 have ae:=hid hln;clear hln;have lb:=hf.lt;have an:=hs.lt;have Q:=hk.lt;have W:=hid hk;have aq:=hid hf;have ax:=hid hs;have HL:=hid hl;have HZ:=hid hz;have HJ:=hid hj;have HR:=hid hr;have HU:=hid hu;have c0:=hk.cell 4 _ rfl;have c1:=hk.cell 5 _ rfl;have c2:=hk.cell 6 _ rfl;have c3:=hk.cell 7 _ rfl;have co:=hk.cell 20 _ rfl;clear hs hk hf hl hz hj hr hu;obtain⟨so,sc,aj,aa⟩:=HL.row;rw[aj]at co;have af:=hid aa;clear aj aa;have D:=hid (brw w);go_enter func230,ntmps230;(go_upto_region 4 with fail);have L:=hid (i1 w #[kW lD (q.rm 0),kW lD (q.rm 1),kW lD (q.rm 2),kW lD (q.rm 3)] 106);have I:=hid (D.alloc D.size (lE #[kW lD (q.rm 0),kW lD (q.rm 1),kW lD (q.rm 2),kW lD (q.rm 3)] 106));have a3:=D.size;clear D;generalize w.alloc (lE #[kW lD (q.rm 0),kW lD (q.rm 1),kW lD (q.rm 2),kW lD (q.rm 3)] 106)=V at L I ⊢;clear c0 c1 c2 c3 co;obtain⟨n,ak⟩:∃n,n=w.heap.size:=⟨_,rfl⟩;rw[<-ak]at L ⊢;(have aL:w.heap.size<=n:=by omega);clear ak
 go_loopg[6,19] q.off.length (fun gg v6 ix wr=>∃(i:Nat) (m:List Nat) (rm:Nat->Int) (va:lN),gg=q.off.length-i/\i<=q.off.length/\ix=kW lD i/\va=v6/\Hid (zz (zC F P G) u q.off q.rm=m++zz (zC F P G) u (q.off.drop i) rm)/\Hid (m.length<=i)/\Hid (∀r,r<4->-10000000<=rm r/\rm r<=10000000)/\Hid (Bx wr n #[kW lD (rm 0),kW lD (rm 1),kW lD (rm 2),kW lD (rm 3)] 106)/\Hid (Li w.heap.size wr va (zV m))/\Hid (Bl w wr))
 case atStart=>exact⟨0,[],q.rm,_,rfl,ep _,rfl,rfl,rfl,ep _,HR,L,Li.nil _ _,I⟩
 case round=>
  clear L I;obtain⟨i,m,rm,va,aZ,hi,rfl,rfl,XE,XC,XM,Z,XL,E⟩:=hrel;by_cases X:i<q.off.length
  ·(have a0:(i:Int)<((zV q.off).length:Int):=by simp;omega);(have aN:(i:Int)<(q.off.length:Int):=by omega);obtain ⟨j,H⟩:∃ j,q.off[i]=j:=⟨_,rfl⟩;(have ac:j<6:=by rw[<-H];exact HJ _ (ij X));(have a1:(j:Int)<6:=by omega);have J:=hid (af.iP E);obtain ⟨g,o,N,aJ⟩:=J.head (by simp;omega);have cg:=J.cell g o N i (by simp;omega);rw[uk _ X,H] at cg;skip
   skip
   rw[N];(go_upto_region 6 with fail);rw[<-N];clear cg aJ N;(have aO:(i:Int)<=1000:=by have:=ae.out;omega);obtain⟨S,x0,x1,x2,x3⟩:=Z.q4 rfl;have cs:=qs E (ax.cell 0 _ rfl) an;have ls:=jl E an;have O:=(aq.iP E).cUd ac;have d0:=O 0 (by omega);have d1:=O 1 (by omega);have d2:=O 2 (by omega);have d3:=O 3 (by omega);have A:=jl E lb;clear O;(have R:Hid (∀U,Bl wr U->lH U ⟨n,0,lI⟩=lJ (kW lD (rm 0))/\lH U ⟨n,1,lI⟩=lJ (kW lD (rm 1))/\lH U ⟨n,2,lI⟩=lJ (kW lD (rm 2))/\lH U ⟨n,3,lI⟩=lJ (kW lD (rm 3))/\lH U ⟨sb,0,lI⟩=lJ (kY (lJ ⟨b,0,lI⟩))/\lH U ⟨b,43+j*22+1,lI⟩=lJ (kW lD (F.ud j 0))/\lH U ⟨b,43+j*22+1+1,lI⟩=lJ (kW lD (F.ud j 1))/\lH U ⟨b,43+j*22+1+2,lI⟩=lJ (kW lD (F.ud j 2))/\lH U ⟨b,43+j*22+1+3,lI⟩=lJ (kW lD (F.ud j 3))):=fun U h=>⟨qs h x0 S,qs h x1 S,qs h x2 S,qs h x3 S,qs h cs ls,qs h d0 A,qs h d1 A,qs h d2 A,qs h d3 A⟩);have KC:Hid (∀U,Bl wr U->Calls prog 171 #[lA (av rm),lA (av (F.ud j))] U (fun e w'=>e=lF (lA (av (fun r=>rm r-F.ud j r)))/\Bl wr w'/\Bl U w')):=fun U hU=>(sI rm (F.ud j) (fun r hr=>by have:=XM.out r hr;omega) (fun r hr=>by have:=HZ.ud j ac r hr;omega) U).mono (fun e w' ⟨h1,h3⟩=>⟨h1,hU.trans (h3.mono hU.size),h3⟩)
   go_cut[9] (fun pp wx=>∃(PB:Nat),pp=kY (lJ ⟨PB,0,lI⟩)/\Hid (Bx wx n #[kW lD (rm 0),kW lD (rm 1),kW lD (rm 2),kW lD (rm 3)] 106)/\Hid (Li w.heap.size wx va (zV m))/\Hid (Bx wx PB #[kW lD (rm 0-F.ud j 0),kW lD (rm 1-F.ud j 1),kW lD (rm 2-F.ud j 2),kW lD (rm 3-F.ud j 3)] 106)/\Hid (Bl w wx)/\wr.heap.size<=PB)
   case first=>obtain⟨aV,aW,aX,aY,aQ,aR,aS,aT,aU⟩:=R _ (brw wr).drew;go_region_held3 (fun w'=>lH w' ⟨n,0,lI⟩=lJ (kW lD (rm 0))/\lH w' ⟨n,1,lI⟩=lJ (kW lD (rm 1))/\lH w' ⟨n,2,lI⟩=lJ (kW lD (rm 2))/\lH w' ⟨n,3,lI⟩=lJ (kW lD (rm 3))/\lH w' ⟨sb,0,lI⟩=lJ (kY (lJ ⟨b,0,lI⟩))/\lH w' ⟨b,43+j*22+1,lI⟩=lJ (kW lD (F.ud j 0))/\lH w' ⟨b,43+j*22+1+1,lI⟩=lJ (kW lD (F.ud j 1))/\lH w' ⟨b,43+j*22+1+2,lI⟩=lJ (kW lD (F.ud j 2))/\lH w' ⟨b,43+j*22+1+3,lI⟩=lJ (kW lD (F.ud j 3))) (first|exact R _ brf.drew|exact R _ (brf.alloc lR _).drew|exact R _ t|exact R _ (t.alloc t.size _)|exact R _ (mF t lR _ _ _ _)) (first|(go_at_call 171;refine(KC _ ?hU).mono ?_;(case hU=>first|exact brf.drew|exact(brf.alloc lR _).drew);rintro e7 w7 ⟨rfl,t,am⟩;try (have y:=(i1 wr #[kW lD 0,kW lD 0,kW lD 0,kW lD 0] 106).drew.ji am;obtain⟨xl,a8,a4,a9,a5,ba,a6,bb,a7⟩:=y.w4 rfl;clear y)));(all_goals (go_wp2_with fail;go_meet));all_goals (first|(refine⟨w7.heap.size,rfl,?_⟩;exact⟨i7 (Z.ji t) _,(XL.iP t).iP ((brw w7).alloc lR _),i1 w7 _ _,(et E t).alloc (eh E.size t.size) _,t.size⟩)|(refine⟨wr.heap.size,rfl,?_⟩;have ad:=mF t lR (kW lD (rm 0-F.ud j 0)) (kW lD (rm 1-F.ud j 1)) (kW lD (rm 2-F.ud j 2)) (kW lD (rm 3-F.ud j 3));exact⟨Z.ji ad,XL.iP ad,Bx.put4 ((i1 wr #[kW lD 0,kW lD 0,kW lD 0,kW lD 0] 106).drew.ji am) (kW lD (rm 0-F.ud j 0)) (kW lD (rm 1-F.ud j 1)) (kW lD (rm 2-F.ud j 2)) (kW lD (rm 3-F.ud j 3)),mF (et E t) E.size (kW lD (rm 0-F.ud j 0)) (kW lD (rm 1-F.ud j 1)) (kW lD (rm 2-F.ud j 2)) (kW lD (rm 3-F.ud j 3)),lR⟩))
   case rest=>
    obtain⟨d,rfl,K,B,f,k,aK⟩:=hcut;clear R KC Z XL E;clear S x0 x1 x2 x3 cs ls d0 d1 d2 d3 A;(go_upto_region 7 with fail);obtain⟨T,y0,y1,y2,y3⟩:=f.q4 rfl;have t0:=qs k (W.cell 0 _ rfl) Q;have t1:=qs k (W.cell 1 _ rfl) Q;have t2:=qs k (W.cell 2 _ rfl) Q;have t3:=qs k (W.cell 3 _ rfl) Q;have Y:=jl k Q;(have R:Hid (∀U,Bl wc U->lH U ⟨d,0,lI⟩=lJ (kW lD (rm 0-F.ud j 0))/\lH U ⟨d,1,lI⟩=lJ (kW lD (rm 1-F.ud j 1))/\lH U ⟨d,2,lI⟩=lJ (kW lD (rm 2-F.ud j 2))/\lH U ⟨d,3,lI⟩=lJ (kW lD (rm 3-F.ud j 3))/\lH U ⟨kb,0,lI⟩=lJ (kW lD (F.ud u 0))/\lH U ⟨kb,1,lI⟩=lJ (kW lD (F.ud u 1))/\lH U ⟨kb,2,lI⟩=lJ (kW lD (F.ud u 2))/\lH U ⟨kb,3,lI⟩=lJ (kW lD (F.ud u 3))):=fun U h=>⟨qs h y0 T,qs h y1 T,qs h y2 T,qs h y3 T,qs h t0 Y,qs h t1 Y,qs h t2 Y,qs h t3 Y⟩);(have KC:Hid (∀U,Bl wc U->Calls prog 202 #[lA (av (fun r=>rm r-F.ud j r)),lA (av (F.ud u))] U (fun e w'=>e=lF (kZ (zU (fun r=>rm r-F.ud j r) (F.ud u) 4))/\Bl wc w')):=fun U hU=>(sX).mono (fun e w' ⟨h1,h3⟩=>⟨h1,hU.trans (h3.mono hU.size)⟩));have aF:=qq y0;have aG:=qq y1;have aH:=qq y2;have aI:=qq y3;have aB:=qq t0;have aC:=qq t1;have aD:=qq t2;have aE:=qq t3;go_region_held3 (fun w'=>lH w' ⟨d,0,lI⟩=lJ (kW lD (rm 0-F.ud j 0))/\lH w' ⟨d,1,lI⟩=lJ (kW lD (rm 1-F.ud j 1))/\lH w' ⟨d,2,lI⟩=lJ (kW lD (rm 2-F.ud j 2))/\lH w' ⟨d,3,lI⟩=lJ (kW lD (rm 3-F.ud j 3))/\lH w' ⟨kb,0,lI⟩=lJ (kW lD (F.ud u 0))/\lH w' ⟨kb,1,lI⟩=lJ (kW lD (F.ud u 1))/\lH w' ⟨kb,2,lI⟩=lJ (kW lD (F.ud u 2))/\lH w' ⟨kb,3,lI⟩=lJ (kW lD (F.ud u 3))) (first|exact R _ brf.drew|exact R _ s) (first|(go_at_call 202;refine(KC _ ?hU).mono ?_;(case hU=>exact brf.drew);rintro aM x ⟨rfl,s⟩));clear R KC aF aG aH aI aB aC aD aE;have a:=hid (K.ji s);have l:=hid (f.ji s);have C:=hid (B.iP s);have z:=hid (et k s);clear K f B k;clear s;clear y0 y1 y2 y3 T t0 t1 t2 t3 Y
    cases M:zU (fun r=>rm r-F.ud j r) (F.ud u) 4 with
    |true=>(have ab:Hid (zz (zC F P G) u q.off q.rm=m++zz (zC F P G) u (q.off.drop (i+1)) (fun r=>rm r-F.ud j r)):=by unfold Hid;rw[XE.out,Gw (c:=(zC F P G)) (u:=u) X (by rw[H];exact M),H];rfl);(have au:Hid (∀r,r<4->-10000000<=rm r-F.ud j r/\rm r-F.ud j r<=10000000):=fun r hr=>by have h1:=oe.1 M r hr;have h2:=XM.out r hr;have h3:=HZ.ud j ac r hr;have h4:=HU.out r hr;exact⟨by omega,by omega⟩);clear M;obtain⟨_,x0,z0⟩:=a.w1 rfl;have y0:=l.cell 0 _ rfl;obtain⟨_,x1,z1⟩:=a.s 1 rfl;have y1:=l.cell 1 _ rfl;obtain⟨_,x2,z2⟩:=a.s 2 rfl;have y2:=l.cell 2 _ rfl;obtain⟨_,x3,z3⟩:=a.s 3 rfl;have y3:=l.cell 3 _ rfl;have S:=a.lt;have T:=l.lt;have ar:=hid (((((C.set a (by decide) 0 (kW lD (rm 0-F.ud j 0))).set (j6 a 0 (kW lD (rm 0-F.ud j 0))) (by decide) 1 (kW lD (rm 1-F.ud j 1))).set (j6 (j6 a 0 (kW lD (rm 0-F.ud j 0))) 1 (kW lD (rm 1-F.ud j 1))) (by decide) 2 (kW lD (rm 2-F.ud j 2))).set (j6 (j6 (j6 a 0 (kW lD (rm 0-F.ud j 0))) 1 (kW lD (rm 1-F.ud j 1))) 2 (kW lD (rm 2-F.ud j 2))) (by decide) 3 (kW lD (rm 3-F.ud j 3))));have aw:=hid (a.put4 (kW lD (rm 0-F.ud j 0)) (kW lD (rm 1-F.ud j 1)) (kW lD (rm 2-F.ud j 2)) (kW lD (rm 3-F.ud j 3)));have ao:=hid (mF z aL (kW lD (rm 0-F.ud j 0)) (kW lD (rm 1-F.ud j 1)) (kW lD (rm 2-F.ud j 2)) (kW lD (rm 3-F.ud j 3)));go_wp2;go_roundg (q.off.length-(i+1));exact⟨i+1,m,fun r=>rm r-F.ud j r,va,rfl,by omega,by go_num,rfl,ab,Nat.le_succ_of_le XC,au,aw,ar,ao⟩;omega
    |false=>(have ab:Hid (zz (zC F P G) u q.off q.rm=(m++[j])++zz (zC F P G) u (q.off.drop (i+1)) rm):=by unfold Hid;rw[XE.out,FP (c:=(zC F P G)) (u:=u) X (by rw[H];exact M),H];simp);clear M;have a2:=z.size;go_wp2_with (at_builtin;refine sy _ rfl _ _ rfl w.heap.size _ (zV m) ⟨x.heap.size,0,lI⟩ 1 (j:Int) rfl rfl (C.alloc _) ((i1 x #[kW lD (j:Int)] 3).cell 0 _ rfl) (by have h1:=XC.out;have h2:=ae.out;simp;omega) (by simp only[em];omega) ?_);intro v8 w8 ah ai ag;have aA:=hid (ai.bx (i7 a (lE #[kW lD (j:Int)] 3)) (by decide));have ay:=hid ((z.alloc z.size _).trans (ag.mono lR));(have az:Hid (Li w.heap.size w8 v8 (zV (m++[j]))):=by unfold Hid zV;rw[ii];exact ah);clear ai ag;go_wp2;go_roundg (q.off.length-(i+1));exact⟨i+1,m++[j],rm,v8,rfl,by omega,by go_num,rfl,ab,by have h1:=XC.out;show(m++[j]).length<=i+1;simp;exact h1,XM,aA,az,ay⟩;omega
  ·(obtain rfl:i=q.off.length:=by omega);(have ap:Hid (zz (zC F P G) u q.off q.rm=m):=by unfold Hid;rw[XE.out,List.drop_length];simp only[zz,List.append_nil]);(have aP:¬ ((q.off.length:Int)<((zV q.off).length:Int)):=by simp);go_wp2;go_ret;exact⟨_,rfl,by rw[ap.out];exact XL,E⟩
variable{r:Nat}
theorem F0 (h:FSm F)(P G:Nat->Int)(hr:r<4):∀l:List Nat,(∀j,j∈l->j<6)->0<=xD (zC F P G) r l/\xD (zC F P G) r l<=10000*l.length:=by
 intro l
 induction l with
 |nil=>intro _;simp[xD]
 |cons j l ih=>intro a;have b:=ih (fun i hi=>a i (List.mem_cons_of_mem _ hi));have c:=h.ud j (a j List.mem_cons_self) r hr;simp only[xD,List.length_cons];change 0<=F.ud j r+_/\F.ud j r+_<=_;omega
variable{s:FM}{m j:Nat}{k:FK}
theorem Por.KInv.here_rng (h:KInv c s u m k)(hg:FGood c s)(hm:m<8)(hj:j<6):0<=k.kt j/\k.kt j<=40:=by
 have a:=h.kt j hj;have b:=h.here0 j hj;have d:=hg.on hj hm;have e:=lU j k.off;omega
theorem Por.KInv.run_rng (h:KInv c s u m k)(hg:FGood c s)(hm:m<8)(hj:j<6):0<=k.run j/\k.run j<=1000:=by
 have d:=h.kt j hj;have e:=h.here0 j hj;have a:=h.run j hj;have g:=lU j k.off;have l:=l8 (f:=s.on j) (n:=8) (fun i hi=>hg.inv.on j hj i hi) hm;have b:=hg.tot j hj;have o:=hg.inv.kV j hj;unfold runs at a b;omega
theorem Por.KInv.len (h:KInv c s u m k)(hg:FGood c s)(hm:m<8):k.off.length<=240:=by
 have a:=um k.off (fun j hj=>(h.ji j hj).1)
 have b:=mD (f:=fun j=>zh j k.off) (n:=6) (B:=40) (fun j hj=>by
  show zh j k.off<=40
  have d:=h.kt j hj
  have e:=h.here0 j hj
  have g:=hg.on hj hm
  omega)
 rw[a]at b;omega
theorem Por.KInv.rm_rng (h:KInv (zC F P G) F.m u m k)(hg:FGood (zC F P G) F.m)(hz:FSm F)(hm:m<8)(hr:r<4):-5000000<=k.rm r/\k.rm r<=5000000:=by
 have a:=h.rm r;have b:=F0 hz P G hr k.off (fun j hj=>(h.ji j hj).1);have c:=AN hz P G hm hr;have d:=h.len hg hm;omega
theorem Ay (hb:zU k.rm (c.ud u) 4=lL)(ho:(zT c u k 6).2.2=lK):yW c u k=lJ (kOff c k (zT c u k 6).1):=by
 unfold yW;rw[hb,ho];rfl
theorem vJ (hb:zU k.rm (c.ud u) 4=lK):yW c u k=lI:=by
 unfold yW;rw[hb];rfl
theorem wm (hb:zU k.rm (c.ud u) 4=lL)(ho:(zT c u k 6).2.2=lL):yW c u k=lI:=by
 unfold yW;rw[hb,ho];rfl
theorem qW (h:FInv c s)(hm:m<8)(hi:Iter (yW c u) (kBeg c s m) k):yL c s u m=if zU k.rm (c.ud u) 4 then lJ (zz c u k.off k.rm)else lI:=by
 have a:=(xz (c:=c) (u:=u) (k:=kBeg c s m) (fun j hj=>h.on j hj m hm)).det hi;unfold yL;rw[a]
theorem CM (hs:Bx w sb (zq b P G) 165)(hf:FL w b F)(hz:FSz F P)(hg:FGood (zC F P G) F.m)(hu:u<6)(hm:m<8):Calls prog 227 #[kY (lJ ⟨sb,0,lI⟩),kW lD u,kW lD m] w fun e w'=>∃v,e=lF (lB #[v,kZ (yL (zC F P G) F.m u m).isSome])/\Li w.heap.size w' v (zV ((yL (zC F P G) F.m u m).getD []))/\Below w.heap.size w w':=by
 have lb:=hf.lt;have aa:=hs.lt;(have bb:(u:Int)<6:=by omega);(have a8:(m:Int)<8:=by omega);have ab:=hid hf;have Q:=hid hs;have HZ:=hid hz;have HG:=hid hg;(have aO:Hid (∀(V:lM) (k:Nat) (cs:Array lN),Bx V k cs 217->Bx V sb (zq b P G) 165->sb≠k):=fun V k cs h1 h2 e=>by subst e;unfold Bx at h1 h2;rw[h1]at h2;simp only[io,Obj.cells.injEq]at h2;exact absurd h2.2.1 (by decide));clear hs hf hz hg;go_enter func227,ntmps227;go_wp2_with fail;refine(CH Q ab HZ.sm hu hm).mono ?_;rintro e1 w1 ⟨c,rfl,L,aC,aA⟩;have ao:=hid aC;have am:=hid aA;clear aC aA;go_wp2
 go_loopg[] (sumI (kBeg (zC F P G) F.m m).kt 6).toNat (fun gg wr=>∃(q:FK) (ov:lN),gg=(sumI q.kt 6).toNat/\Hid (∀z,Iter (yW (zC F P G) u) q z->Iter (yW (zC F P G) u) (kBeg (zC F P G) F.m m) z)/\Hid (KInv (zC F P G) F.m u m q)/\Hid (Bx wr c (yD (F.ud u) q.rm q.kt q.run ov) 217)/\Hid (Li w.heap.size wr ov (zV q.off))/\Hid (Bl w wr))
 case atStart=>exact⟨kBeg (zC F P G) F.m m,kX lI 0 0,rfl,fun z h=>h,KInv.beg HG.inv hm,ao,Li.nil _ _,am⟩
 case round=>
  clear ao am;obtain⟨q,ov,a7,XI,XQ,S,XL,XB⟩:=hrel;(go_upto_region 2 with fail);have l:=S.lt;have c0:=S.cell 0 _ rfl;have c1:=S.cell 1 _ rfl;have c2:=S.cell 2 _ rfl;have c3:=S.cell 3 _ rfl;have c4:=S.cell 4 _ rfl;have c5:=S.cell 5 _ rfl;have c6:=S.cell 6 _ rfl;have c7:=S.cell 7 _ rfl;(have SK:Hid (∀U,Bl wr U->lH U ⟨c,4,lI⟩=lJ (kW lD (q.rm 0))/\lH U ⟨c,5,lI⟩=lJ (kW lD (q.rm 1))/\lH U ⟨c,6,lI⟩=lJ (kW lD (q.rm 2))/\lH U ⟨c,7,lI⟩=lJ (kW lD (q.rm 3))/\lH U ⟨c,0,lI⟩=lJ (kW lD (F.ud u 0))/\lH U ⟨c,1,lI⟩=lJ (kW lD (F.ud u 1))/\lH U ⟨c,2,lI⟩=lJ (kW lD (F.ud u 2))/\lH U ⟨c,3,lI⟩=lJ (kW lD (F.ud u 3))):=fun U h=>⟨qs h c4 l,qs h c5 l,qs h c6 l,qs h c7 l,qs h c0 l,qs h c1 l,qs h c2 l,qs h c3 l⟩);(have KC:Hid (∀U,Bl wr U->Calls prog 202 #[lA (av q.rm),lA (av (F.ud u))] U (fun e w'=>e=lF (kZ (zU q.rm (F.ud u) 4))/\Bl wr w')):=fun U hU=>(sX).mono (fun e w' ⟨h1,h3⟩=>⟨h1,hU.trans (h3.mono hU.size)⟩));have aV:=qq c4;have aW:=qq c5;have aX:=qq c6;have aY:=qq c7;have ai:=qq c0;have aj:=qq c1;have ak:=qq c2;have al:=qq c3;go_region_held3 (fun w'=>lH w' ⟨c,4,lI⟩=lJ (kW lD (q.rm 0))/\lH w' ⟨c,5,lI⟩=lJ (kW lD (q.rm 1))/\lH w' ⟨c,6,lI⟩=lJ (kW lD (q.rm 2))/\lH w' ⟨c,7,lI⟩=lJ (kW lD (q.rm 3))/\lH w' ⟨c,0,lI⟩=lJ (kW lD (F.ud u 0))/\lH w' ⟨c,1,lI⟩=lJ (kW lD (F.ud u 1))/\lH w' ⟨c,2,lI⟩=lJ (kW lD (F.ud u 2))/\lH w' ⟨c,3,lI⟩=lJ (kW lD (F.ud u 3))) (first|exact SK _ brf.drew|exact SK _ o) (first|(go_at_call 202;refine(KC _ ?hU).mono ?_;(case hU=>exact brf.drew);rintro a5 aH ⟨rfl,o⟩));clear SK KC aV aW aX aY ai aj ak al;have t:=hid (S.ji o);have s:=hid (XL.iP o);have f:=hid (et XB o);clear S XL XB;clear o;clear l c0 c1 c2 c3 c4 c5 c6 c7
  cases D:zU q.rm (F.ud u) 4 with
  |true=>(have O:Hid (yL (zC F P G) F.m u m=lJ (zz (zC F P G) u q.off q.rm)):=by unfold Hid;rw[qW HG.out.inv hm (XI.out q (.done (vJ D)))];show(if zU q.rm (F.ud u) 4 then _ else _)=_;rw[D];rfl);clear D;go_wp2_with fail;refine(DY (Q.iP f aa) t (ab.iP f) HZ.sm s (fun j hj=>(XQ.ji j hj).1) (fun r hr=>by have:=XQ.rm_rng HG HZ.sm hm hr;omega) (fun r hr=>(HZ.sm.ud u hu r hr).1) (by have:=XQ.len HG hm;omega)).mono ?_;rintro e8 w8 ⟨v8,rfl,aD,aB⟩;have aK:=hid (aD.mono f.size);have aJ:=hid (et f aB);clear aD aB;go_wp2;go_ret2;exact⟨v8,by rw[O.out];rfl,by rw[O.out];exact aK,aJ⟩
  | false=>
   go_wp2_with fail;refine(DD (Q.iP f aa) t (ab.iP f) HZ (fun j hj=>XQ.run_rng HG hm hj)).mono ?_;rintro e3 w3 ⟨rfl,ae⟩;have n:=hid (t.ji ae);have M:=hid (s.iP ae);have H:=hid (et f ae);clear t s f;clear ae;have ac:=hid (tB (zC F P G) u q 6);obtain⟨⟨a,xl,xf⟩,hx⟩:∃x,zT (zC F P G) u q 6=x:=⟨_,rfl⟩;rw[hx]at ac ⊢;simp only at ac ⊢;have HX:=hid hx;clear hx
   cases xf with
   |false=>(have O:Hid (yL (zC F P G) F.m u m=lI):=by unfold Hid;rw[qW HG.out.inv hm (XI.out q (.done (wm D (by rw[HX.out]))))];show(if zU q.rm (F.ud u) 4 then _ else _)=_;rw[D];rfl);clear D;go_wp2;go_ret2;exact⟨_,by rw[O.out];rfl,by rw[O.out];exact Li.nil _ _,H⟩
   |true=>
    (have ad:Hid (yW (zC F P G) u q=lJ (kOff (zC F P G) q a)):=by unfold Hid;have h9:=Ay D (by rw[HX.out]);rw[HX.out]at h9;exact h9);clear D;obtain⟨E,a4⟩:=ac.1 rfl;(have bc:(a:Int)<6:=by omega);clear a4 ac;have an:=hid (XQ.here_rng HG hm E);have ap:=hid (XQ.run_rng HG hm E);(have aN:Hid (∀r,r<4->-5000000<=q.rm r/\q.rm r<=5000000):=fun r hr=>XQ.rm_rng HG HZ.sm hm hr);have aL:=hid (XQ.len HG hm);(go_upto_region 6 with fail);obtain⟨y6,af⟩:∃y,q.kt a=y:=⟨_,rfl⟩;have ck:=n.cell (8+a) _ (sR _ _ _ _ _ E);have zk:=n.frozen (8+a);have l:=n.lt;rw[af]at ck;(have aF:0<=y6/\y6<=1000:=by rw[<-af];have h1:=an.out;have h2:=ap.out;constructor<;>omega);have aP:=hid af;clear af;go_region;clear ck zk l;(have J:Hid (Bx (lG w3 ⟨c,8+a,lI⟩ (kW lD (y6-1))).drew c (yD (F.ud u) q.rm (zE q.kt a (q.kt a-1)) q.run ov) 217):=by have h9:=j6 n (8+a) (kW lD (y6-1));rw[wv _ _ _ _ _ E]at h9;rw[aP.out];exact h9);have K:Hid (Li w.heap.size (lG w3 ⟨c,8+a,lI⟩ (kW lD (y6-1))).drew ov (zV q.off)):=M.set n (by decide) (8+a) (kW lD (y6-1));have I:=hid ((H.setCell (p:=⟨c,8+a,lI⟩) L (kW lD (y6-1))).drew);(go_upto_region 7 with fail);generalize(lG w3 ⟨c,8+a,lI⟩ (kW lD (y6-1))).drew=V6 at J K I ⊢;clear n M H aF;have N:=J;have ar:=K;have aq:=I;clear J K I;(go_upto_region 7 with fail);obtain⟨y7,ag⟩:∃y,q.run a=y:=⟨_,rfl⟩;have ck:=N.cell (14+a) _ (qM _ _ _ _ _ E);have zk:=N.frozen (14+a);have l:=N.lt;rw[ag]at ck;(have aG:0<=y7/\y7<=1000:=by rw[<-ag];have h1:=an.out;have h2:=ap.out;constructor<;>omega);have aQ:=hid ag;clear ag;go_region;clear ck zk l;(have J:Hid (Bx (lG V6 ⟨c,14+a,lI⟩ (kW lD (y7-1))).drew c (yD (F.ud u) q.rm (zE q.kt a (q.kt a-1)) (zE q.run a (q.run a-1)) ov) 217):=by have h9:=j6 N (14+a) (kW lD (y7-1));rw[wG _ _ _ _ _ E]at h9;rw[aQ.out];exact h9);have K:Hid (Li w.heap.size (lG V6 ⟨c,14+a,lI⟩ (kW lD (y7-1))).drew ov (zV q.off)):=ar.set N (by decide) (14+a) (kW lD (y7-1));have I:Hid (Bl w (lG V6 ⟨c,14+a,lI⟩ (kW lD (y7-1))).drew):=(aq.setCell (p:=⟨c,14+a,lI⟩) L (kW lD (y7-1))).drew;(go_upto_region 8 with fail);generalize(lG V6 ⟨c,14+a,lI⟩ (kW lD (y7-1))).drew=i at J K I ⊢;clear N ar aq aG;have l:=J.lt;have c0:=J.cell 4 _ rfl;have c1:=J.cell 5 _ rfl;have c2:=J.cell 6 _ rfl;have c3:=J.cell 7 _ rfl;have a9:sb≠c:=aO _ _ _ J (Q.iP I aa);have cs:=qs I (Q.cell 0 _ rfl) aa;have ls:=jl I aa;have Y:=(ab.iP I).cUd E;have d0:=Y 0 (by omega);have d1:=Y 1 (by omega);have d2:=Y 2 (by omega);have d3:=Y 3 (by omega);have Z:=jl I lb;clear Y;have ai:i.drew.cell? ⟨c,4,lI⟩=lJ (kW lD (q.rm 0)):=qq c0;have aj:i.drew.cell? ⟨c,5,lI⟩=lJ (kW lD (q.rm 1)):=qq c1;have ak:i.drew.cell? ⟨c,6,lI⟩=lJ (kW lD (q.rm 2)):=qq c2;have al:i.drew.cell? ⟨c,7,lI⟩=lJ (kW lD (q.rm 3)):=qq c3;have aZ:i.drew.cell? ⟨sb,0,lI⟩=lJ (kY (lJ ⟨b,0,lI⟩)):=qq cs;have a0:i.drew.cell? ⟨b,43+a*22+1,lI⟩=lJ (kW lD (F.ud a 0)):=qq d0;have a1:i.drew.cell? ⟨b,43+a*22+1+1,lI⟩=lJ (kW lD (F.ud a 1)):=qq d1;have a2:i.drew.cell? ⟨b,43+a*22+1+2,lI⟩=lJ (kW lD (F.ud a 2)):=qq d2;have a3:i.drew.cell? ⟨b,43+a*22+1+3,lI⟩=lJ (kW lD (F.ud a 3)):=qq d3
    go_cut[] (fun wx=>Hid (Bx wx c (yD (F.ud u) (fun r=>q.rm r+F.ud a r) (zE q.kt a (q.kt a-1)) (zE q.run a (q.run a-1)) ov) 217)/\Hid (Li w.heap.size wx ov (zV q.off))/\Hid (Bl w wx))
    (case first=>go_region_law (first|(go_simp;go_at_call 172;refine(ry q.rm (F.ud a) (fun r hr=>by have:=aN.out r hr;omega) (fun r hr=>by have:=HZ.sm.ud a E r hr;omega) _).mono ?_;rintro a6 aI ⟨rfl,X⟩;have d:Bl i aI:=(brw i).drew.trans (X.mono ((brw i).drew).size);clear X;have k0:=(J.ji d).cell 4 _ rfl;have z0:=(J.ji d).frozen 4;have k1:=(J.ji d).cell 5 _ rfl;have z1:=(J.ji d).frozen 5;have k2:=(J.ji d).cell 6 _ rfl;have z2:=(J.ji d).frozen 6;have k3:=(J.ji d).cell 7 _ rfl;have z3:=(J.ji d).frozen 7;have bd:=(J.ji d).lt;go_wp2_with fail));(all_goals (try go_wp2_with fail));(all_goals go_meet);all_goals exact⟨(j6 (j6 (j6 (j6 (J.ji d) 4 (kW lD (q.rm 0+F.ud a 0))) 5 (kW lD (q.rm 1+F.ud a 1))) 6 (kW lD (q.rm 2+F.ud a 2))) 7 (kW lD (q.rm 3+F.ud a 3))),(((((K.iP d).set (J.ji d) (by decide) 4 (kW lD (q.rm 0+F.ud a 0))).set (j6 (J.ji d) 4 (kW lD (q.rm 0+F.ud a 0))) (by decide) 5 (kW lD (q.rm 1+F.ud a 1))).set (j6 (j6 (J.ji d) 4 (kW lD (q.rm 0+F.ud a 0))) 5 (kW lD (q.rm 1+F.ud a 1))) (by decide) 6 (kW lD (q.rm 2+F.ud a 2))).set (j6 (j6 (j6 (J.ji d) 4 (kW lD (q.rm 0+F.ud a 0))) 5 (kW lD (q.rm 1+F.ud a 1))) 6 (kW lD (q.rm 2+F.ud a 2))) (by decide) 7 (kW lD (q.rm 3+F.ud a 3))),(((((I.trans ((d).mono I.size)).setCell (p:=⟨c,4,lI⟩) L (kW lD (q.rm 0+F.ud a 0))).setCell (p:=⟨c,5,lI⟩) L (kW lD (q.rm 1+F.ud a 1))).setCell (p:=⟨c,6,lI⟩) L (kW lD (q.rm 2+F.ud a 2))).setCell (p:=⟨c,7,lI⟩) L (kW lD (q.rm 3+F.ud a 3)))⟩);case rest=>obtain⟨T,ah,R⟩:=hcut;clear l c0 c1 c2 c3 cs ls d0 d1 d2 d3 Z ai aj ak al aZ a0 a1 a2 a3;(go_upto_region 9 with fail);clear J K I;generalize wc=V8 at T ah R ⊢;have co:=T.cell 20 _ rfl;have l:=T.lt;have ba:w.heap.size<=V8.heap.size:=R.size;go_wp2_with (at_builtin;refine sy _ rfl _ _ rfl w.heap.size _ (zV q.off) ⟨V8.heap.size,0,lI⟩ 1 (a:Int) rfl rfl (ah.alloc _) ((i1 V8 #[kW lD (a:Int)] 3).cell 0 _ rfl) (by have h2:=aL.out;simp;omega) (by simp only[em];omega) ?_);intro v9 w9 ay az ax;have W:=hid (az.bx (i7 T (lE #[kW lD (a:Int)] 3)) (by decide));have aR:Hid (Bl w w9):=(R.alloc R.size _).trans (ax.mono lR);(have aw:Hid (Li w.heap.size w9 v9 (zV (q.off++[a]))):=by have h9:=ay;unfold Hid zV;rw[ii];exact h9);clear ay az ax co l T ah R;obtain⟨B,A,aE⟩:=aw.kE;rw[show(zV (q.off++[a])).length=q.off.length+1 by simp]at aE;subst aE;obtain⟨l,co,zo⟩:=W.s 20 rfl;have aT:Hid (Bx (lG w9 ⟨c,20,lI⟩ (kX B (q.off.length+1) A)) c (yD (F.ud u) (fun r=>q.rm r+F.ud a r) (zE q.kt a (q.kt a-1)) (zE q.run a (q.run a-1)) (kX B (q.off.length+1) A)) 217):=j6 W 20 (kX B (q.off.length+1) A);have aU:Hid (Li w.heap.size (lG w9 ⟨c,20,lI⟩ (kX B (q.off.length+1) A)) (kX B (q.off.length+1) A) (zV (q.off++[a]))):=aw.set W (by decide) 20 (kX B (q.off.length+1) A);have aS:Hid (Bl w (lG w9 ⟨c,20,lI⟩ (kX B (q.off.length+1) A))):=aR.setCell (p:=⟨c,20,lI⟩) L (kX B (q.off.length+1) A);(have aM:Hid ((sumI (kOff (zC F P G) q a).kt 6).toNat<gk):=by unfold Hid;have h1:=qN ad;have h2:=JQ (qE ad XQ.here0);omega);go_wp2;go_roundg (sumI (kOff (zC F P G) q a).kt 6).toNat;(case measure=>exact aM);case rel=>exact⟨kOff (zC F P G) q a,(kX B (q.off.length+1) A),rfl,fun z h=>XI z (.step ad h),XQ.step ad,aT,aU,aS⟩
theorem qJ {k:Nat}(h:c.mt k=lL):zG c s u (k+1)=zG c s u k:=by simp only[zG];rw[h];rfl
theorem sG {k:Nat}(h:yL c s u k=lI):zG c s u (k+1)=zG c s u k:=by
 simp only[zG];rw[h];cases c.mt k<;>rfl
theorem qG {k:Nat}{l:List Nat}(hm:c.mt k=lK)(h:yL c s u k=lJ l)(h2:(!(zG c s u k).2.2||decide (l.length<(zG c s u k).2.1.length))=lK):zG c s u (k+1)=(k,l,lK):=by
 simp only[zG];rw[hm,h];simp only[h2,eS]
theorem vP {k:Nat}{l:List Nat}(h:yL c s u k=lJ l)(h2:(!(zG c s u k).2.2||decide (l.length<(zG c s u k).2.1.length))=lL):zG c s u (k+1)=zG c s u k:=by
 simp only[zG];rw[h];simp only[h2];cases c.mt k<;>rfl
theorem CF (hs:Bx w sb (zq b P G) 165)(hf:FL w b F)(hz:FSz F P)(hg:FGood (zC F P G) F.m)(hu:u<6):Calls prog 217 #[kY (lJ ⟨sb,0,lI⟩),kW lD u] w fun e w'=>∃v,e=lF (lB #[kW lD ((zG (zC F P G) F.m u 8).1:Int),v,kZ (zG (zC F P G) F.m u 8).2.2])/\Li w.heap.size w' v (zV (zG (zC F P G) F.m u 8).2.1)/\Below w.heap.size w w':=by
 have lb:=hf.lt;have Z:=hs.lt;(have ag:(u:Int)<6:=by omega);have R:=hf;have U:=hs.cell 0 _ rfl;obtain⟨M,hF,hE⟩:=hf;have p:=brw w;go_enter func217,ntmps217;(go_upto_region 4 with fail);have B:=hF.range 3 40 (by omega);go_wp2_with (refine wpList_load_mid rfl 109 _ rfl b 3 rfl (yS M 3 40) _ B Tryz.uMachs rfl (by rw[Tryz.zMachs,nQ]) ?_);clear B U
 go_loopg[7,8,9,21] 8 (fun gg s7 s8 s9 ix wr=>∃(k:Nat) (z:lN),gg=8-k/\k<=8/\ix=kW lD k/\s7=kW lD ((zG (zC F P G) F.m u k).1:Int)/\z=s8/\s9=kZ (zG (zC F P G) F.m u k).2.2/\Li w.heap.size wr z (zV (zG (zC F P G) F.m u k).2.1)/\Bl w wr)
 case atStart=>exact⟨0,kX lI 0 0,rfl,by omega,rfl,rfl,rfl,rfl,Li.nil _ _,p⟩
 case round=>
  clear p;obtain⟨k,z,ae,hk,rfl,V,rfl,W,D,C⟩:=hrel;obtain⟨⟨xn,r,xf⟩,Y⟩:∃x,zG (zC F P G) F.m u k=x:=⟨_,rfl⟩;rw[Y]at V W D;simp only at V W D;subst V W;by_cases H:k<8
  ·(have af:(k:Int)<8:=by omega);have X:=sw hE H;(go_upto_region 7 with fail);have i:=i1 wr #[kZ (F.mt k),kW lD (F.ms k 0),kW lD (F.ms k 1),kW lD (F.ms k 2),kW lD (F.ms k 3)] 108;have d:=D.alloc (lE #[kZ (F.mt k),kW lD (F.ms k 0),kW lD (F.ms k 1),kW lD (F.ms k 2),kW lD (F.ms k 3)] 108);have a:=C.alloc C.size (lE #[kZ (F.mt k),kW lD (F.ms k 0),kW lD (F.ms k 1),kW lD (F.ms k 2),kW lD (F.ms k 3)] 108);have ah:=C.size;clear D C;generalize wr.alloc (lE #[kZ (F.mt k),kW lD (F.ms k 0),kW lD (F.ms k 1),kW lD (F.ms k 2),kW lD (F.ms k 3)] 108)=V2 at i d a ⊢;obtain ⟨mb,N⟩:∃ mb,mb=wr.heap.size:=⟨_,rfl⟩;rw[<-N] at i ⊢;clear N X;obtain ⟨lm,T⟩:=i.q1 rfl
   cases n:F.mt k with
   |false=>have g:=(qJ (c:=(zC F P G)) (s:=F.m) (u:=u) (k:=k) n).trans Y;rw[n]at T;clear n i;go_wp2;go_roundg (8-(k+1));exact⟨k+1,z,rfl,by omega,by go_num,by rw[g],rfl,by rw[g],by rw[g];exact d,a⟩;omega
   | true=>
    rw[n]at T;clear i;go_wp2_with fail;clear T lm;refine(CM (hs.iP a Z) (R.iP a) hz hg hu H).mono ?_;rintro e5 w5 ⟨v5,rfl,I,y⟩;have j:=I.mono a.size;have h:=d.iP y;have f:=et a y;clear d a;clear I y
    cases o:yL (zC F P G) F.m u k with
    |none=>have g:=(sG o).trans Y;clear o j;simp only[ju];go_wp2;go_roundg (8-(k+1));exact⟨k+1,z,rfl,by omega,by go_num,by rw[g],rfl,by rw[g],by rw[g];exact h,f⟩;omega
    | some l=>
     rw[o]at j;simp only[jm,Option.getD_some]at j ⊢;obtain⟨aa,ac,O⟩:=j.kE;simp only[iv]at O;subst O;obtain⟨ab,ad,Q⟩:=h.kE;simp only[iv]at Q;subst Q
     cases xf with
     |false=>have g:=qG n o (by rw[Y];rfl);go_wp2;go_roundg (8-(k+1));exact⟨k+1,_,rfl,by omega,by go_num,by rw[g],rfl,by rw[g],by rw[g];exact j,f⟩;omega
     |true=>
      by_cases J:l.length<r.length
      ·have g:=qG n o (by rw[Y,ei (show l.length<(xn,r,lK).2.1.length from J)];rfl);have K:=ei (by omega);(have L:(l.length:Int)<(r.length:Int):=by omega);go_wp2;go_roundg (8-(k+1));exact⟨k+1,_,rfl,by omega,by go_num,by rw[g],rfl,by rw[g],by rw[g];exact j,f⟩;omega
      ·(have g:zG (zC F P G) F.m u (k+1)=(xn,r,lK):=by rw[<-Y];exact vP o (by rw[Y,ee (show¬ l.length<(xn,r,lK).2.1.length from J)];rfl));have K:=ee (by omega);(have L:¬ (l.length:Int)<(r.length:Int):=by omega);go_wp2;go_roundg (8-(k+1));exact⟨k+1,_,rfl,by omega,by go_num,by rw[g],rfl,by rw[g],by rw[g];exact h,f⟩;omega
  ·(obtain rfl:k=8:=by omega);go_wp2;go_ret3;exact⟨z,by rw[Y];rfl,by rw[Y];exact D,C⟩
end Go.Proofs.YtigokanoflkinaaGreatDoor
