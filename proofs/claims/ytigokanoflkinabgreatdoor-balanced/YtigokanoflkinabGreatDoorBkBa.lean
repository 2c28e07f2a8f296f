/- portionkeep: sums, and what Balanced looks at. (Laid by mkbkba.py.) -/
import Derived.Test.YtigokanoflkinabGreatDoorBkDP
import Derived.Test.YtigokanoflkinabGreatDoorBkU
import Derived.Test.YtigokanoflkinabGreatDoorBkTv
set_option maxHeartbeats 8000000
set_option maxRecDepth 20000
namespace Go.Proofs.YtigokanoflkinabGreatDoor
set_option linter.unusedSimpArgs false
set_option linter.unusedVariables false
open Go.RowKit Por
theorem Step.time {F G:Flt}{o:OpV}{er:Int}(h:Step F o er G):0<=nT o er/\nT o er<=1000:=by
 unfold nT;split
 ·rename_i e;rcases h with ⟨b,_⟩ | ⟨_,⟨c,a,_⟩ | ⟨_,a,d,_⟩⟩
  ·exact absurd e.2 b
  ·exact absurd e.1 a.keep.2.2.2
  ·omega
 ·omega
theorem jMJ {R:Int}{G:Flt}(h:FWf R G){u:Nat}(hu:u<6)(n:Int):0<=rnT G u n/\rnT G u n<=40:=by
 unfold rnT;have a:=h.runs0 hu;have b:=h.tot u hu;have c:=h.wait u hu;split <;> omega
theorem jJS {R:Int}{F:Flt}(h:FWf R F){u r:Nat}(hu:u<6)(hr:r<4):0<=yK F u r/\yK F u r<=400000000000:=by
 unfold yK;have c:=h.used u hu r hr;have d:=h.ck;have a:(u:Int).toNat=u:=rfl;have b:(r:Int).toNat=r:=rfl;split
 ·rw[a,b];omega
 ·omega
theorem jLI {R:Int} {G:Flt} (h:FWf R G) {r:Nat} (hr:r<4):∀ n,n<=6->0<=Por.sumI (fun u=>G.used u r) n/\Por.sumI (fun u=>G.used u r) n<=400000000000*n:=fun n=>by
  induction n with
  | zero=>intro _;exact ⟨Int.le_refl _,by simp[Por.sumI]⟩
  | succ n ih=>
    intro hn
    have h1:=ih (by omega)
    have h2:=h.used n (by omega) r hr
    have h3:=h.ck
    show 0<=Por.sumI (fun u=>G.used u r) n+G.used n r/\Por.sumI (fun u=>G.used u r) n+G.used n r<=_
    omega
theorem jJi (b fb sb:Nat)(R R':Int)(F G:Flt)(sp:List Int)(o:OpV)(da:Option Addr)(dn dc:Nat)(er:Int)(w:World)(hv:VW w b fb G sp)(hw:FWf R' G)(hwF:FWf R F)(hs:Step F o er G)(htv:TV w sb F)(hbal:∀ r,r<G.k->sp[r]? = some (G.idle r+Por.sumI (fun u=>G.used u r) G.ug)):Calls Tryz.prog 30 #[.pointer (some ⟨b,0,none⟩),.agg #[.int .i64 o.kind,.int .i64 o.a,.int .i64 o.b,.int .i64 o.c,.slice da dn dc,.bool o.oth],.int .i64 er,.pointer (some ⟨sb,0,none⟩)] w fun e w'=>e = .returned (.bool true)/\Below w.heap.size w w':=by
 obtain ⟨l,s,v,y,xs,oth⟩:=o;obtain ⟨so,sc,uo,uc,ho,hc,lo,lc,po,pc,hv⟩:=hv;obtain ⟨ro,rc,wo,a9,a6,a5,oo,oc,a8,a7,jo,jc,eo,en,ec,el,htv⟩:=htv;have af:=hid hv;have ad:=hid htv;have M:=hid hw;have O:=hid hwF;have HS:=hid hs;have au:=hid hbal;clear hv htv hw hwF hs hbal;dsimp only;have g:=hid (brw w);have q:=hid (jAC w #[.int .i64 l,.int .i64 s,.int .i64 v,.int .i64 y,.slice da dn dc,.bool oth] 30);have f:Hid (Below w.heap.size w (w.alloc (.cells #[.int .i64 l,.int .i64 s,.int .i64 v,.int .i64 y,.slice da dn dc,.bool oth] 30))):=g.out.alloc g.out.size (.cells #[.int .i64 l,.int .i64 s,.int .i64 v,.int .i64 y,.slice da dn dc,.bool oth] 30);have aN:w.heap.size<=w.heap.size:=g.out.size;clear g;go_enter Tryz.func30,Tryz.ntmps30;(go_upto_region 2 with fail);obtain ⟨V,hV⟩:∃ V,V=(w.alloc (.cells #[.int .i64 l,.int .i64 s,.int .i64 v,.int .i64 y,.slice da dn dc,.bool oth] 30)):=⟨_,rfl⟩;rw[<- hV] at q f ⊢;clear hV;obtain ⟨ob,X⟩:∃ ob,ob=w.heap.size:=⟨_,rfl⟩;(have XO:Hid (Bx V ob #[.int .i64 l,.int .i64 s,.int .i64 v,.int .i64 y,.slice da dn dc,.bool oth] 30):=by rw[X];exact q);rw[<- X];have HV:=hid (af.out.below f.out);have HT:=hid (ad.out.below f.out);have HB:=f;clear af ad X aN q f;have lV:=HV.out.box.lt;have aO:=XO.out.lt;have k0:=XO.out.cell 0 _ rfl;have k1:=XO.out.cell 1 _ rfl;obtain ⟨cb,aj⟩:∃ c:Bool,c=decide (l=9/\er=0):=⟨_,rfl⟩;have n:=hid aj;clear aj
 go_cut[24] (fun cc wx=>cc = .bool cb/\wx=V)
 case first=>
  by_cases q9:l=9
  ·by_cases h0:er=0
   ·(have t:Hid (cb=true):=by unfold Hid;rw[n.out];exact decide_eq_true ⟨q9,h0⟩);subst q9;subst h0;go_wp2;go_meet;exact ⟨by rw[t.out],rfl⟩
   ·(have t:Hid (cb=false):=by unfold Hid;rw[n.out];exact decide_eq_false (fun h=>h0 h.2));subst q9;(have g0:(er == 0)=false:=by rw[beq_eq_false_iff_ne];exact h0);go_wp2;go_meet;exact ⟨by rw[t.out],rfl⟩
  ·(have t:Hid (cb=false):=by unfold Hid;rw[n.out];exact decide_eq_false (fun h=>q9 h.1));(have g9:(l == 9)=false:=by rw[beq_eq_false_iff_ne];exact q9);go_wp2;go_meet;exact ⟨by rw[t.out],rfl⟩
 case rest=>
  obtain ⟨rfl,ab⟩:=hcut;obtain rfl:=ab.symm
  go_upto_if 24 with fail
  go_cut[9] (fun nn wx=>nn = .int .i64 (nT ⟨l,s,v,y,xs,oth⟩ er)/\wx=V)
  case first=>
   cases cb with
   | true=>(have e:nT ⟨l,s,v,y,xs,oth⟩ er=s:=by unfold nT;exact if_pos (of_decide_eq_true n.out.symm));have t:=hid e;clear e;go_wp2;go_meet;exact ⟨by rw[t.out],rfl⟩
   | false=>(have e:nT ⟨l,s,v,y,xs,oth⟩ er=0:=by unfold nT;exact if_neg (of_decide_eq_false n.out.symm));have t:=hid e;clear e;go_wp2;go_meet;exact ⟨by rw[t.out],rfl⟩
  case rest=>
   obtain ⟨rfl,ab⟩:=hcut;obtain rfl:=ab.symm;clear k0 k1 XO aO;obtain ⟨N,hN⟩:∃ N,nT ⟨l,s,v,y,xs,oth⟩ er=N:=⟨_,rfl⟩;have aC:=hid hN;have W:=HS.out.time;have z:=HS.out.clock;rw[hN] at W z ⊢;clear hN;have az:=hid z.1;have aR:Hid (G.k=F.k):=z.2;have aF:=O.out.ck;clear z;have c0:=HV.out.box.cell 0 _ rfl;go_wp2_with fail;refine (Clock_any fb G _ HV.out.fl).mono ?_;rintro e1 w1 ⟨rfl,Y⟩;obtain rfl:=Y.symm;have c6:=HV.out.box.cell 6 _ rfl;rw[az.out] at c6 ⊢;have s6:=HT.out.box.cell 6 _ rfl;have ls:=HT.out.box.lt;obtain ⟨C,hC⟩:∃ C,F.ck=C:=⟨_,rfl⟩;rw[hC] at c6 s6 aF ⊢;clear hC;(have y1:(C+N == C+N)=true:=by simp);have am:=M.out.k4;have aE:Hid (G.ug<=6):=M.out.ug;go_wp2;clear c6 s6 y1 c0
   go_loopg[11] G.k (fun gg ix wr=>∃ r:Nat,gg=G.k - r/\r<=G.k/\ix = .int .i64 r/\Hid (Below V.heap.size V wr))
   case atStart=>exact ⟨0,rfl,Nat.zero_le _,rfl,Below.refl _ _⟩
   case round=>
    obtain ⟨r,aZ,hr,rfl,i⟩:=hrel;have d:=hid (HV.out.below i.out);have ar:=d.out.box.lt;have c1:=d.out.box.cell 1 _ rfl;by_cases B:r<G.k
    ·(have aa:(r:Int)<(G.k:Int):=by omega);have c0:=d.out.box.cell 0 _ rfl;(have aA:Hid (xG (zh G (r:Int)) (.int .i64 (G.idle (r:Int).toNat)) (.int .i64 0) = .tuple #[.int .i64 (G.idle r),.int .i64 0]):=by unfold Hid zh;rw[decide_eq_true (show (0:Int)<=(r:Int) by omega),decide_eq_true aa];rfl);go_wp2_with fail;refine (Idle_any fb G (r:Int) _ d.out.fl am).mono ?_;rintro e2 w2 ⟨H,Y⟩;obtain rfl:=Y.symm;rw[aA.out] at H;subst H;have I:=M.out.idle r (by omega);have ak:=M.out.ck;(have aQ:G.idle r<=8000000000:=by omega);have aP:=I.1;clear I ak;(have al:¬ G.idle r<0:=by omega);have aH:decide (G.idle r<0)=false:=decide_eq_false al;go_wp2;clear c0 c1 d ar
     go_loopg[12,14] G.ug (fun gg s12 ix wr=>∃ k:Nat,gg=G.ug - k/\k<=G.ug/\ix = .int .i64 k/\s12 = .int .i64 (G.idle r+Por.sumI (fun u=>G.used u r) k)/\Hid (Below V.heap.size V wr))
     case atStart=>exact ⟨0,rfl,Nat.zero_le _,rfl,by show _=Value.int .i64 (G.idle r+0);rw[Int.add_zero],i.out⟩
     case round=>
      clear i;obtain ⟨k,aY,hk,rfl,rfl,i⟩:=hrel;have d:=hid (HV.out.below i.out);have ar:=d.out.box.lt;have aJ:=aE.out;have aL:=jLI M.out (r:=r) (by omega) k (by omega);obtain ⟨Z,hZ⟩:∃ Z,Por.sumI (fun u=>G.used u r) k=Z:=⟨_,rfl⟩;have HZ:=hid hZ;rw[hZ] at aL ⊢;clear hZ;have c3:=d.out.box.cell 3 _ rfl;by_cases U:k<G.ug
      ·(have an:(k:Int)<(G.ug:Int):=by omega);have c0:=d.out.box.cell 0 _ rfl;(have aB:Hid (xG (zX G (k:Int) && zh G (r:Int)) (.int .i64 (G.used (k:Int).toNat (r:Int).toNat)) (.int .i64 0) = .tuple #[.int .i64 (G.used k r),.int .i64 0]):=by unfold Hid zX zh;rw[decide_eq_true (show (0:Int)<=(r:Int) by omega),decide_eq_true aa,decide_eq_true (show (0:Int)<=(k:Int) by omega),decide_eq_true an];rfl);go_wp2_with fail;refine (Used_any fb G (k:Int) (r:Int) _ d.out.fl aJ am).mono ?_;rintro e3 w3 ⟨H,Y⟩;obtain rfl:=Y.symm;rw[aB.out] at H;subst H;obtain ⟨g1,o1,rfl,aG,c5⟩:=d.out.here k U;have c4:=d.out.box.cell 4 _ rfl;obtain ⟨g2,o2,d2,e2,aU,rfl,aX,u0,aW,cd,_⟩:=d.out.user k U;obtain ⟨x,aT,ap,aM,aq⟩:=cd r B;clear cd;have j:=hid (HS.out.used O.out U B aq);rw[aC.out] at j;have aK:=jJS O.out (u:=k) (r:=r) (by omega) (by omega);have D:=jMJ M.out (u:=k) (by omega) N;clear aq;have K:=hid (HT.out.below i.out);have a4:=K.out.box.lt;have s4:=K.out.box.cell 4 _ rfl;obtain ⟨g3,o3,d3,e3,c7,aI,a3,aS,a2,ag⟩:=K.out.used k (by omega);have cu:=ag r (by omega);dsimp only at cu;clear ag;subst aI;obtain ⟨A,hA⟩:∃ A,yK F k r=A:=⟨_,rfl⟩;obtain ⟨T,hT⟩:∃ T,rnT G k N=T:=⟨_,rfl⟩;obtain ⟨P,hP⟩:∃ P,N*T=P:=⟨_,rfl⟩;obtain ⟨Q,hQ⟩:∃ Q,P*x=Q:=⟨_,rfl⟩;rw[hA] at j aK cu;rw[hT] at j D;have L:=hid hT;(have ah:0<=P/\P<=40000:=by rw[<- hP];exact ⟨Int.mul_nonneg W.1 D.1,Int.le_trans (Int.mul_le_mul W.2 D.2 D.1 (by decide)) (by decide)⟩);(have aV:0<=Q/\Q<=400000000:=by rw[<- hQ];exact ⟨Int.mul_nonneg ah.1 ap,Int.le_trans (Int.mul_le_mul ah.2 aM ap (by decide)) (by decide)⟩);rw[hP,hQ] at j;rw[j.out];(have J:Hid (Por.sumI (fun u=>G.used u r) (k+1)=Z+(A+Q)):=by unfold Hid;show Por.sumI (fun u=>G.used u r) k+G.used k r=_;rw[HZ.out,j.out]);clear hA hT;(have a1:(k:Int)<7:=by omega);(have a0:(r:Int)<5:=by omega);have y2:(A+Q == A+Q)=true:=by simp
       cases E:G.ut k with
       | false=>rw[E] at c5;(have S:T=0:=by rw[<- L.out];unfold rnT;rw[E];rfl);subst S;clear E;(go_upto_region 20 with fail);go_quiet (fail);have p:Hid (Below V.heap.size V (wr.drewN nq)):=i.out.trans ((below_drewN (brw wr) nq).mono i.out.size);go_wp2;go_roundg (G.ug - (k+1));(case measure=>omega);case rel=>exact ⟨k+1,rfl,by omega,by go_num,by rw[J.out];go_num,p.out⟩
       | true=>
        rw[E] at c5;have aD:=hid E;by_cases ao:0<N
        ·(have ai:T=runs G.m k:=by rw[<- L.out];unfold rnT;rw[E,decide_eq_true ao];rfl);have ae:=hid ai;clear ai E;go_wp2_with fail;refine (jCJ b fb _ G sp k _ d.out.vw M.out (by omega) aD.out).mono ?_;rintro e4 w4 ⟨H,Y⟩;obtain rfl:=Y.symm;rw[<- ae.out] at H;subst H;(go_upto_region 20 with fail);go_quiet (fail);have p:Hid (Below V.heap.size V (wr.drewN nq)):=i.out.trans ((below_drewN (brw wr) nq).mono i.out.size);go_wp2;go_roundg (G.ug - (k+1));(case measure=>omega);case rel=>exact ⟨k+1,rfl,by omega,by go_num,by rw[J.out];go_num,p.out⟩
        ·(have S:T=0:=by rw[<- L.out];unfold rnT;rw[E,decide_eq_false ao];rfl);subst S;clear E;(go_upto_region 20 with fail);go_quiet (fail);have p:Hid (Below V.heap.size V (wr.drewN nq)):=i.out.trans ((below_drewN (brw wr) nq).mono i.out.size);go_wp2;go_roundg (G.ug - (k+1));(case measure=>omega);case rel=>exact ⟨k+1,rfl,by omega,by go_num,by rw[J.out];go_num,p.out⟩
      ·(obtain rfl:k=G.ug:=by omega);(have an:¬ (G.ug:Int)<(G.ug:Int):=by omega);obtain ⟨g1,o1,rfl,aG,c8⟩:=d.out.sp r B;have c7:=d.out.box.cell 7 _ rfl;(have aw:Hid (lm sp r=G.idle r+Z):=by unfold Hid;rw[jHD (au.out r B),HZ.out]);rw[aw.out] at c8;(have y3:(G.idle r+Z == G.idle r+Z)=true:=by simp);go_wp2;go_roundg (G.k - (r+1));(case measure=>omega);case rel=>exact ⟨r+1,rfl,by omega,by go_num,i.out⟩
    ·(obtain rfl:r=G.k:=by omega);(have aa:¬ (G.k:Int)<(G.k:Int):=by omega);have ay:Hid (Below w.heap.size w wr):=HB.out.trans (i.out.mono HB.out.size);go_wp2;go_ret;exact ⟨rfl,ay.out⟩
theorem jFO:Holds 4:=by
 intro H b I sb B R F G S sv uv hv lv pv ss ps o k m l W w L M K N Z u Y hR hs y t ht;obtain ⟨n,h,i,j,xs,d⟩:=o;have q:=hid L;have p:=hid M;have C:=hid K;have E:=hid N;have x:=hid u;have Q:=hid hs;have r:=hid t.tv;clear L M K N Z u hs t ht y;dsimp only;have c:=hid (brw w);have e:=hid (jAC w #[.int .i64 n,.int .i64 h,.int .i64 i,.int .i64 j,.slice k m l,.bool d] 30);have a:Hid (Below w.heap.size w (w.alloc (.cells #[.int .i64 n,.int .i64 h,.int .i64 i,.int .i64 j,.slice k m l,.bool d] 30))):=c.out.alloc c.out.size (.cells #[.int .i64 n,.int .i64 h,.int .i64 i,.int .i64 j,.slice k m l,.bool d] 30);have z:w.heap.size<=w.heap.size:=c.out.size;clear c;go_enter Tryz.func12,Tryz.ntmps12;(go_upto_region 1 with fail);obtain ⟨V,J⟩:∃ V,V=(w.alloc (.cells #[.int .i64 n,.int .i64 h,.int .i64 i,.int .i64 j,.slice k m l,.bool d] 30)):=⟨_,rfl⟩;rw[<- J] at e a ⊢;clear J;obtain ⟨A,g⟩:∃ A,A=w.heap.size:=⟨_,rfl⟩;(have f:Hid (Bx V A #[.int .i64 n,.int .i64 h,.int .i64 i,.int .i64 j,.slice k m l,.bool d] 30):=by rw[g];exact e);rw[<- g];have P:=hid (q.out.below a.out);have O:=hid (p.out.below a.out);have T:=hid (r.out.below a.out);have D:=a;clear e a q p r g z;(have U:Hid (VW V b I G S.sp):=by obtain ⟨s1,s2,s3,s4,s5,s6,s7,s8,s9,ab,_,_,_,_,_,X⟩:=P.out.vw O.out C.out E.out;exact X.vw);have k0:=f.out.cell 0 _ rfl;have k1:=f.out.cell 1 _ rfl;have k2:=f.out.cell 2 _ rfl;have k3:=f.out.cell 3 _ rfl;have k4:=f.out.cell 4 _ rfl;have k5:=f.out.cell 5 _ rfl;have aa:=f.out.lt;go_wp2_with fail;refine (jJi b I sb _ _ F G S.sp ⟨n,h,i,j,xs,d⟩ k m l W _ U.out E.out x.out Q.out T.out C.out.bal).mono ?_;rintro e1 w1 ⟨rfl,s⟩;have v:Hid (Below w.heap.size w w1):=D.out.trans (s.mono D.out.size);clear s k0 k1 k2 k3 k4 k5;go_wp2;go_ret;exact ⟨rfl,v.out⟩
theorem jGZ (k:Int)(ao:Option Addr)(n cap:Nat)(os:List OpV)(w:World)(hs:Scr w ao n cap os)(hn:n<=2199023255552)(hll:∀ i,i<n->(og os i).l.length<=17592186044416)(ht:Tab w):Calls Tryz.prog 6 #[.int .i64 k,.slice ao n cap] w fun e w'=>e = .returned (.bool true)/\Below w.heap.size w w':=by
 go_enter Tryz.func6,Tryz.ntmps6;go_wp2_with fail;refine (jB8 k ao n cap os 4 _ hs hn hll ht jFO).mono ?_;rintro c d ⟨rfl,a⟩;have b:=hid a;clear a;go_wp2;go_ret;exact ⟨rfl,b.out⟩
end Go.Proofs.YtigokanoflkinabGreatDoor
