/- The rise of the reference: begin. (Laid by mkriseh.py.) -/
import Derived.Test.YtigokanoflkinaaGreatDoorRRF
set_option maxHeartbeats 20000000
set_option maxRecDepth 20000
namespace Go.Proofs.YtigokanoflkinaaGreatDoor
set_option linter.unusedSimpArgs false
set_option linter.unusedVariables false
open Go.RowKit Por Go.Proofs.Tryz
open Value renaming int->kW,slice->kX,pointer->kY,bool->kZ
open IntKind renaming i64->lD
open Obj renaming cells->lE
open Ending renaming returned->lF
open World renaming setCell->lG,cell?->lH
open Option renaming none->lI,some->lJ
open Bool renaming true->lK,false->lL
open Go renaming World->lM,Value->lN
variable{ops:Array Oper}{a:Act}{Q:Exit->Act->lM->Prop}{o:Oper}
theorem CC (w:lM){rest:List Oper}(hgd:o.guard=lI)(s x:Operand)(hop:o.op=Op.call {callee:=Callee.builtin Builtin.append,args:=#[s,x],argTypes:=#[22,22]})(base:Nat)(v:lN)(l:List Int)(ad:Addr)(c:Nat)(u:Int)(hs:a.eval s=v)(hx:a.eval x=kX (lJ ad) 1 c)(hown:Own base w v l)(h0:w.cell? (ad.add 0)=lJ (kW lD u))(hle:l.length+1<=1000000)(hb:base<=w.heap.size)(h:∀v' w',Own base w' v' (l++[u])->Touch 3 base w w'->Below base w w'->wpList prog ops Q rest (a.put o.dst v') w'):wpList prog ops Q (o::rest) a w:=by
 obtain⟨i,A,e,f,m⟩:=iM Tryz.infoInt
 have d:∀k,v.ownBlock=lJ k->base<=k:=by
  intro k q;rcases hown.2 with⟨rfl,_⟩|⟨g,t,y,rfl,b,_⟩
  ·cases q
  ·cases q;exact b
 refine jw w hgd s x _ hop base 3 i (kW lD 0) 1 8 eR A e f m rfl (by decide) v l.length _ hs hown ad 1 c [kW lD u] hx (by simp) ?_ ?_ (by unfold maxLen;omega) (by omega) hb ?_
 ·intro j z p
  match j with
  |0=>rw[h0];simpa using p
  |j+1=>simp at p
 ·intro z r;simp at r;subst r;rfl
 ·intro v' w' b n _;refine h v' w' ?_ (Touch.of_append hown n) ((eB base w).grown n hb d);unfold Own;rw[eK,ii];exact b
variable{w:lM}
theorem uY {K:Act->lM->Prop}{E:Prop}(hgd:o.guard=lI)(s x:Operand)(hop:o.op=Op.call {callee:=Callee.builtin Builtin.append,args:=#[s,x],argTypes:=#[73,73]})(base:Nat)(v:lN)(l:List Bool)(ad:Addr)(c:Nat)(u:Bool)(hs:a.eval s=v)(hx:a.eval x=kX (lJ ad) 1 c)(hown:BLs base w v l)(h0:w.cell? (ad.add 0)=lJ (kZ u))(hle:l.length+1<=1000000)(hb:base<=w.heap.size)(hK:∀v' w',BLs base w' v' (l++[u])->Touch 4 base w w'->Below base w w'->K (a.put o.dst v') w'):if Region.wanted o (yielded ops a.tmps)=lK then Oper.wp prog o a w K Q else E:=by
 (have B:Region.wanted o (yielded ops a.tmps)=lK:=by simp[Region.wanted,hgd]);rw[ed B];obtain⟨i,A,e,f,h⟩:=iM Tryz.infoBl
 have d:∀k,v.ownBlock=lJ k->base<=k:=by
  intro k n;rcases hown.2 with⟨rfl,_⟩|⟨g,r,t,rfl,y,_⟩
  ·cases n
  ·cases n;exact y
 obtain⟨v',w',b,C,q,_⟩:=run_append_own (P:=prog) w base 73 o.type 4 i (kZ lL) 1 1 underlying73 A e f h rfl (by decide) v l.length _ hown ad 1 c [kZ u] (by simp) (by
  intro j z m
  match j with
  |0=>rw[h0];simpa using m
  |j+1=>simp at m) (by
  intro z p
  simp at p
  subst p;rfl) (by unfold maxLen;omega) (by omega) hb
 unfold Oper.wp;simp[execOp,hop,resolve,invoke,builtin,hs,hx,b,Result.andThen];refine hK v' w' ?_ (Touch.of_append hown q) ((eB base w).grown q hb d);unfold BLs;rw[eK,ii];exact C
variable{B:Nat}{w':lM}{v:lN}{l:List Nat}
theorem NLs.touchB {C:Nat}(h:NLs B w v l)(ht:Touch 22 C w w')(hlt:∀b n c,v=kX (lJ ⟨b,0,lI⟩) n c->b<C):NLs B w' v l:=by
 obtain⟨t,f,o⟩:=h;refine⟨t,⟨f.1,?_⟩,fun i hi=>?_⟩
 ·rcases f.2 with p|⟨g,a,d,e,q,j,r⟩
  ·exact .inl p
  ·exact .inr ⟨g,a,d,e,q,(ht.block g (ek.1 j).1 (.inl (hlt g _ _ e))).trans j,r⟩
 ·obtain⟨m,k,a,e,s⟩:=o i hi;exact⟨m,k,a,e,s.kC ht (by decide)⟩
theorem NLs.lt (h:NLs B w v l):∀b n c,v=kX (lJ ⟨b,0,lI⟩) n c->b<w.heap.size:=by
 intro b n c e;obtain⟨k,i,_⟩:=h;rcases i.2 with⟨a,_⟩|⟨g,d,f,a,_,j,_⟩
 ·rw[e]at a;cases a
 ·rw[e]at a;cases a;exact(ek.1 j).1
variable{v':lN}{d:RD}
theorem RisM.appGrow {s:RV}(h:RisM w d s){x:Nat}(hO:NLs d.B2 w' v' (s.gl++[x]))(hT:Touch 22 d.B2 w w')(hB:Below d.B2 w w'):RisM (lG w' ⟨d.pb,3,lI⟩ v') d {s with gl:=s.gl++[x]}:=by
 obtain⟨⟨n,y,l,m,k,j,i,o,p,z,q,r,t,g⟩,u,v,e,c,f⟩:=h;have b:=o.iP hB (by omega);have a:Touch 75 d.pb w' (lG w' ⟨d.pb,3,lI⟩ v'):=Touch.of_set b lR;refine⟨⟨n,v',l,m,k,j,i,j6 b 3 v',(p.kC hT (by decide)).kC a (by decide),hO.kC a (by decide) (by decide),(q.touchB hT g).kC a (by decide) (by decide),(r.kC hT (by decide)).kC a (by decide),(t.kC hT (by decide)).kC a (by decide),g⟩,u,v,?_,c,f⟩;exact(e.trans (hB.mono (by omega))).setCell c _
structure RisP (w:lM)(pb:Nat)(pv uv:lN)(qo:Option Addr)(qn qc:Nat)(i:Nat)(tl:List Int)(sl:List Bool)(vt vh vs:lN):Prop where
  box:Bx w pb #[pv,uv,vt,kX lI 0 0,vh,vs,kX qo qn qc] 75
  t:Own (pb+1) w vt tl
  h:w.ownsRow (pb+1) 22 1 vh i (List.replicate i (Value.slice lI 0 0))
  s:BLs (pb+1) w vs sl
variable{pb qn qc i:Nat}{pv uv vt vh vs:lN}{qo:Option Addr}{tl:List Int}{sl:List Bool}
theorem RisP.iP (h:RisP w pb pv uv qo qn qc i tl sl vt vh vs) (hb:Below w.heap.size w w'):RisP w' pb pv uv qo qn qc i tl sl vt vh vs:=
  ⟨h.box.iP hb h.box.lt,h.t.iP hb,JO h.h hb,h.s.iP hb⟩
variable{x:Int}
theorem RisP.appT (h:RisP w pb pv uv qo qn qc i tl sl vt vh vs)(hO:Own (pb+1) w' v' (tl++[x]))(hT:Touch 3 (pb+1) w w'):RisP (lG w' ⟨pb,2,lI⟩ v') pb pv uv qo qn qc i (tl++[x]) sl v' vh vs:=by
 have b:=hT.bx h.box (by decide);have a:Touch 75 pb w' (lG w' ⟨pb,2,lI⟩ v'):=Touch.of_set b lR;exact⟨j6 b 2 v',hO.kC a (by decide),a.own (hT.own h.h (by decide)) (by decide),(h.s.kC hT (by decide)).kC a (by decide)⟩
theorem RisP.appS {x:Bool}(h:RisP w pb pv uv qo qn qc i tl sl vt vh vs)(hO:BLs (pb+1) w' v' (sl++[x]))(hT:Touch 4 (pb+1) w w'):RisP (lG w' ⟨pb,5,lI⟩ v') pb pv uv qo qn qc i tl (sl++[x]) vt vh v':=by
 have b:=hT.bx h.box (by decide);have a:Touch 75 pb w' (lG w' ⟨pb,5,lI⟩ v'):=Touch.of_set b lR;exact⟨j6 b 5 v',(h.t.kC hT (by decide)).kC a (by decide),a.own (hT.own h.h (by decide)) (by decide),hO.kC a (by decide)⟩
theorem RisP.appH (h:RisP w pb pv uv qo qn qc i tl sl vt vh vs)(hO:w'.ownsRow (pb+1) 22 1 v' (i+1) (List.replicate i (Value.slice lI 0 0)++[Value.slice lI 0 0]))(hT:Touch 22 (pb+1) w w'):RisP (lG w' ⟨pb,4,lI⟩ v') pb pv uv qo qn qc (i+1) tl sl vt v' vs:=by
 have b:=hT.bx h.box (by decide);have a:Touch 75 pb w' (lG w' ⟨pb,4,lI⟩ v'):=Touch.of_set b lR;(have e:List.replicate i (Value.slice lI 0 0)++[Value.slice lI 0 0]=List.replicate (i+1) (Value.slice lI 0 0):=by rw[List.replicate_succ']);rw[e]at hO;exact⟨j6 b 4 v',(h.t.kC hT (by decide)).kC a (by decide),a.own hO (by decide),(h.s.kC hT (by decide)).kC a (by decide)⟩
variable{po ao:Option Addr}{pc cap:Nat}{pool:List Int}{us:List Usr}
theorem RisP.rise {w0 w1:lM}(h:RisP w w1.heap.size (kX po pool.length pc) (kX ao us.length cap) qo qn qc us.length tl sl vt vh vs)(hp:Arr w0 1 po pool.length pc (zi pool))(hu:Users w0 ao us.length cap us)(hb1:Below w0.heap.size w0 w1)(hb:Below w1.heap.size w1 w)(hq:Row w1 qo qn qc (zA 1)):RisM w ⟨w0,po,pc,pool,ao,cap,us,w1.heap.size,w1.heap.size+1,w.heap.size⟩ ⟨tl,[],List.replicate us.length 0,sl,1⟩:=by
 have b:=h.box.lt;(have a:NLs (w1.heap.size+1) w vh (List.replicate us.length 0):=by refine⟨_,by rw[iD];exact h.h,fun i hi=>?_⟩;rw[iD]at hi;refine⟨lI,0,0,by rw[List.getElem?_replicate,ed hi],?_⟩;(have e:nn (List.replicate us.length 0) i=0:=by unfold nn;simp[hi]);rw[e,JD];exact Row.nil w);exact⟨⟨vt,kX lI 0 0,vh,vs,qo,qn,qc,h.box,h.t,NLs.nil _ _,a,h.s,hq.iP hb,a.lt⟩,hp,hu,hb1.trans (hb.mono hb1.size),hb1.size,by show w1.heap.size<w1.heap.size+1/\w1.heap.size+1<=w.heap.size;omega⟩
theorem Gf {a b A:Nat}(ha:a<=A)(hb:b<=B):∃X:Nat,(a:Int)*(b:Int)=(X:Int)/\X<=A*B/\X=a*b:=⟨a*b,by rw[Int.natCast_mul],iS ha hb,rfl⟩
theorem Jj (h:d.Ok)(hi:i<d.us.length)(m j:Nat)(hj:j<=d.us.length):(zA (d.a.W i*d.a.P m*xA (gF d tl i) j)).length<=8:=by
 have c:=h.n6;have e:(zA (100*10000*10000^6)).length=8:=by decide
 have b:d.a.W i*d.a.P m*xA (gF d tl i) j<=100*10000*10000^6:=by
  refine iS (iS (d.W_le h hi).2 (d.P_le h _)) ?_;refine eh (Bv (M:=10000) (by omega) _ (fun k hk=>?_)) (ip (by omega) (by omega:j<=6));unfold gF RD.tD;split
  ·exact d.D_le h (by omega) _
  ·omega
 have:=jAH b;omega
theorem JL {oi:Oper}{fuel:Nat}{listed:Array Bool}{md:Region.Mode}{S:lM->Prop}(hi:ops[i]?=lJ oi)(hk:(Region.noSelect ops&&Region.free md ops listed i&&(Region.ready md ops listed).contains i)=lK)(hQ:∀c a w,Q (.panic c) (a.put oi.dst v) w->Q (.panic c) a w)(hS:S w)(hy:YieldsIf prog ops S oi v a)(h:wpAnyH prog md ops Q S fuel (listed.setIfInBounds i lK) (a.put oi.dst v) w):wpAnyH prog md ops Q S (fuel+1) listed a w:=by
 simp only[eJ]at hk;exact wpAnyH_take hi hk.1.1 hk.1.2 hk.2 hQ hy hS h
theorem qx {l:List Int}(h:i<l.length):lm (l++[x]) i=lm l i:=by simp[lm,eU h]
theorem Jy {l:List Int}(h:l.length=i):lm (l++[x]) i=x:=by subst h;simp[lm]
theorem Jz {l:List Bool}{x:Bool}(h:l.length=i):bn (l++[x]) i=x:=by subst h;exact Bj l x
theorem ES (hp:Arr w 1 po pool.length pc (zi pool))(hu:Users w ao us.length cap us)(hg:Good us pool.length)(hpa:∀ i,yG (lm pool i)=lK)(hn6:us.length<=6)(hk1:1<=pool.length)(hk4:pool.length<=4):Calls prog 20 #[kX po pool.length pc,kX ao us.length cap] w fun e w'=>∃ pb B1 B2 s,e = lF (kY (lJ ⟨pb,0,lI⟩))/\RisM w' ⟨w,po,pc,pool,ao,cap,us,pb,B1,B2⟩ s/\RBeg ⟨w,po,pc,pool,ao,cap,us,pb,B1,B2⟩ s/\Below w.heap.size w w':=by
  have HP:=hid hp;have HU:=hid hu;have HG:=hid hg;have HPA:=hid hpa;clear hp hu hg hpa;have HB_0:=hid (brw w);go_enter func20,ntmps20;go_wp2_with fail;refine(JN (x:=1) (by omega)).mono ?_;rintro e1 w1 ⟨v1,rfl,⟨qo,qn,qc,rfl,hqr,_⟩,hb1⟩;have HQ:=hid hqr;have HB1:Hid (Bl w w1):=et HB_0.out hb1;clear hb1 hqr HB_0;go_wp2;have HX0:Hid (RisP (w1.alloc (lE #[kX po pool.length pc,kX ao us.length cap,kX lI 0 0,kX lI 0 0,kX lI 0 0,kX lI 0 0,kX qo qn qc] 75)) w1.heap.size (kX po pool.length pc) (kX ao us.length cap) qo qn qc 0 [] [] (kX lI 0 0) (kX lI 0 0) (kX lI 0 0)):=⟨i1 w1 _ _,Own.nil _ _,⟨rfl,.inl ⟨rfl,rfl⟩⟩,BLs.nil _ _⟩;have HBL0:Hid (Bl w1 (w1.alloc (lE #[kX po pool.length pc,kX ao us.length cap,kX lI 0 0,kX lI 0 0,kX lI 0 0,kX lI 0 0,kX qo qn qc] 75))):=brf.alloc lR _
  go_loopg[6] us.length (fun gg ix wr=>∃(i:Nat) (tl:List Int) (sl:List Bool) (vt vh vs:lN),gg=us.length-i/\i<=us.length/\ix=kW lD i/\Hid (tl.length=i)/\Hid (sl.length=i)/\Hid (RisP wr w1.heap.size (kX po pool.length pc) (kX ao us.length cap) qo qn qc i tl sl vt vh vs)/\Hid (∀j,j<i->TopIs pool (ug us j) (lm tl j))/\Hid (∀j,j<i->bn sl j=(decide (0<=lm tl j)&&decide (0<(ug us j).cap)))/\Hid (Bl w1 wr))
  case atStart=>exact⟨0,[],[],_,_,_,rfl,ep _,rfl,rfl,rfl,HX0.out,fun j hj=>by omega,fun j hj=>by omega,HBL0.out⟩
  case round=>
    clear HX0 HBL0;obtain⟨i,tl,sl,vt,vh,vs,hgi,hi,rfl,htl,hsl,HR,HTO,HSO,hB⟩:=hrel;by_cases hit:i<us.length
    · (have hin:(i:Int)<(us.length:Int):=by omega);obtain⟨ub,uo,da,dn,dc,hao,hbl,a0,a1,a2,hd⟩:=(HU.out.iP (et HB1.out hB.out)).get hit;subst hao;have HD:=hid hd;clear hd;go_wp2_with fail;refine(tT (u:=ug us i) (HP.out.iP (et HB1.out hB.out)) HD.out (HG.out.len hit) HPA.out (fun j=>HG.out.dem hit j) hk4).mono ?_;rintro e2 w2 ⟨⟨t,rfl,ht⟩,hb2⟩;have HTI:=hid ht;have HR2:=hid (HR.out.iP hb2);have HB2:Hid (Bl w1 w2):=et hB.out hb2;have a2b:=qs hb2 a2 hbl;have hbl2:=jl hb2 hbl;clear hb2 ht HR hB a0 a1 a2 hbl HD;have hbx:=HR2.out.box;obtain⟨tto,ttc,hvt⟩:=JM HR2.out.t;subst hvt;have c2:=hbx.cell 2 _ rfl;have lb:=hbx.lt;clear hbx;have hsz:w1.heap.size+1<=w2.heap.size:=lb;go_wp2_with (at_builtin;refine CC _ rfl _ _ rfl (w1.heap.size+1) _ tl ⟨w2.heap.size,0,lI⟩ 1 t rfl rfl (HR2.out.t.iP (brf.alloc lR _)) ((i1 w2 #[kW lD t] 3).cell 0 _ rfl) (by have:=htl.out;omega) (by simp only[em];omega) ?_);intro v3 w3 hO3 hT3 hB3;obtain⟨to3,tc3,hv3⟩:=JM hO3;generalize(tl++[t]).length=L3 at hv3;subst hv3;have hR3:=(HR2.out.iP (brf.alloc lR _)).appT hO3 hT3;have HB3:Hid (Bl w1 w3):=(HB2.out.alloc HB2.out.size _).trans (hB3.mono (by omega));have c2b:=(hT3.bx (HR2.out.iP (brf.alloc lR _)).box (by decide)).cell 2 _ rfl;have z2b:=(hT3.bx (HR2.out.iP (brf.alloc lR _)).box (by decide)).frozen 2;have lb3:=(hT3.bx (HR2.out.iP (brf.alloc lR _)).box (by decide)).lt;have HR3:=hid hR3
      have a2c:lH w3 ⟨ub,uo+i*3+2,lI⟩=lJ (kW lD (ug us i).cap):=by
        have h9:Bl w1 w3:=HB3.out;obtain⟨ub',uo',da',dn',dc',hao',hbl',_,_,a2',_⟩:=(HU.out.iP (et HB1.out HB3.out)).get hit
        cases hao';exact a2'
      have hbl3:ub<w3.heap.size:=by
        obtain⟨ub',uo',da',dn',dc',hao',hbl',_,_,a2',_⟩:=(HU.out.iP (et HB1.out HB3.out)).get hit
        cases hao';exact hbl'
      clear hO3 hT3 hB3 hR3 HR2 HB2 c2 lb hsz a2b hbl2;(go_upto_region 7 with fail);have HB4:Hid (Bl w1 (lG w3 ⟨w1.heap.size,2,lI⟩ (kX to3 L3 tc3))):=HB3.out.setCell lR _;generalize lG w3 ⟨w1.heap.size,2,lI⟩ (kX to3 L3 tc3)=V at HR3 HB4 ⊢;clear HB3 c2b z2b lb3 a2c hbl3;obtain⟨ub',uo',da',dn',dc',hao',hbl,_,_,a2,_⟩:=(HU.out.iP (et HB1.out HB4.out)).get hit
      cases hao'
      have hbx:=HR3.out.box;obtain⟨so5,sc5,hvs⟩:=JM HR3.out.s;subst hvs;obtain⟨lb,c5,z5⟩:=hbx.s 5 rfl;clear hbx;have hsz:w1.heap.size+1<=V.heap.size:=lb
      have htv:t = -1\/∃m:Nat,t=(m:Int):=by
        rcases HTI.out with⟨h5,_⟩|⟨m,h5,_⟩
        · exact Or.inl h5
        · exact Or.inr ⟨m,h5⟩
      rcases htv with htv|⟨m,htv⟩
      all_goals
        subst htv
        have HK:Hid (∀U,Bl V U -> lH U ⟨ub,uo+i*3+2,lI⟩=lJ (kW lD (ug us i).cap)):=fun U h=>(h.cell (p:=⟨ub,uo+i*3+2,lI⟩) hbl).trans a2
        have hub:ub≠w1.heap.size:=by obtain⟨ub9,uo9,_,_,_,hao9,hbl9,_⟩:=HU.out.get hit;cases hao9;have h9:=HB1.out.size;omega
        refine wp_region_noPanic ?_
        refine wp_region_held_drew (S:=fun w'=>lH w' ⟨ub,uo+i*3+2,lI⟩=lJ (kW lD (ug us i).cap)) (by kernel_rfl) (HK.out _ brf.drew) (fun hHeld=>?_)
        refine JL (i:=0) (oi:=⟨lJ 38,.move (.tmp 5),51,"fill.go:91",#[],lI⟩) (v:=?_) rfl (by kernel_rfl) (fun _ _ _ h=>h) hHeld (Or.inl ⟨by rfl,?_⟩) ?_
        rotate_left
        (· (intro w hSw;(try dsimp only at hSw);go_simp;try with_reducible rfl))
        simp only [Act.put,el,eu,es]
        refine JL (i:=1) (oi:=⟨lJ 39,.move (.tmp 5),51,"fill.go:91",#[],lI⟩) (v:=?_) rfl (by kernel_rfl) (fun _ _ _ h=>h) hHeld (Or.inl ⟨by rfl,?_⟩) ?_
        rotate_left
        (· (intro w hSw;(try dsimp only at hSw);go_simp;try with_reducible rfl))
        simp only [Act.put,el,eu,es]
        refine JL (i:=2) (oi:=⟨lJ 40,.nilCheck (.tmp 39),0,"fill.go:91",#[⟨1,.data⟩],lI⟩) (v:=?_) rfl (by kernel_rfl) (fun _ _ _ h=>h) hHeld (Or.inl ⟨by rfl,?_⟩) ?_
        rotate_left
        (· (intro w hSw;(try dsimp only at hSw);go_simp;try with_reducible rfl))
        simp only [Act.put,el,eu,es]
        refine JL (i:=3) (oi:=⟨lJ 41,.fieldAddr 75 (.tmp 40) 5,0,"fill.go:91",#[⟨2,.data⟩],lI⟩) (v:=?_) rfl (by kernel_rfl) (fun _ _ _ h=>h) hHeld (Or.inl ⟨by rfl,?_⟩) ?_
        rotate_left
        (· (intro w hSw;(try dsimp only at hSw);go_simp;try with_reducible rfl))
        simp only [Act.put,el,eu,es]
        refine JL (i:=5) (oi:=⟨lJ 43,.move (.tmp 7),3,"fill.go:91",#[],lI⟩) (v:=?_) rfl (by kernel_rfl) (fun _ _ _ h=>h) hHeld (Or.inl ⟨by rfl,?_⟩) ?_
        rotate_left
        (· (intro w hSw;(try dsimp only at hSw);go_simp;try with_reducible rfl))
        simp only [Act.put,el,eu,es]
        refine JL (i:=6) (oi:=⟨lJ 44,.binOp Go.BinOp.geq 3 (.tmp 43) (.const (kW lD 0)) 3,4,"fill.go:91",#[⟨5,.data⟩],lI⟩) (v:=?_) rfl (by kernel_rfl) (fun _ _ _ h=>h) hHeld (Or.inl ⟨by rfl,?_⟩) ?_
        rotate_left
        (· (intro w hSw;(try dsimp only at hSw);go_simp;try with_reducible rfl))
        simp only [Act.put,el,eu,es]
        refine JL (i:=7) (oi:=⟨lJ 45,.move (.tmp 44),4,"fill.go:91",#[⟨6,.data⟩],lI⟩) (v:=?_) rfl (by kernel_rfl) (fun _ _ _ h=>h) hHeld (Or.inl ⟨by rfl,?_⟩) ?_
        rotate_left
        (· (intro w hSw;(try dsimp only at hSw);go_simp;try with_reducible rfl))
        simp only [Act.put,el,eu,es]
        (first|refine JL (i:=8) (oi:=⟨lJ 46,.move (.tmp 1),23,"fill.go:91",#[⟨7,.guard⟩],lJ (7,lK)⟩) (v:=undef) rfl (by kernel_rfl) (fun _ _ _ h=>h) hHeld (Or.inr ⟨by rfl,rfl⟩) ?_|(refine JL (i:=8) (oi:=⟨lJ 46,.move (.tmp 1),23,"fill.go:91",#[⟨7,.guard⟩],lJ (7,lK)⟩) (v:=?_) rfl (by kernel_rfl) (fun _ _ _ h=>h) hHeld (Or.inl ⟨by rfl,?_⟩) ?_;rotate_left;(· (intro w hSw;(try dsimp only at hSw);go_simp;try with_reducible rfl))))
        simp only [Act.put,el,eu,es]
        (first|refine JL (i:=9) (oi:=⟨lJ 47,.move (.tmp 6),3,"fill.go:91",#[⟨7,.guard⟩],lJ (7,lK)⟩) (v:=undef) rfl (by kernel_rfl) (fun _ _ _ h=>h) hHeld (Or.inr ⟨by rfl,rfl⟩) ?_|(refine JL (i:=9) (oi:=⟨lJ 47,.move (.tmp 6),3,"fill.go:91",#[⟨7,.guard⟩],lJ (7,lK)⟩) (v:=?_) rfl (by kernel_rfl) (fun _ _ _ h=>h) hHeld (Or.inl ⟨by rfl,?_⟩) ?_;rotate_left;(· (intro w hSw;(try dsimp only at hSw);go_simp;try with_reducible rfl))))
        simp only [Act.put,el,eu,es]
        (first|refine JL (i:=10) (oi:=⟨lJ 48,.indexAddr 23 (.tmp 46) (.tmp 47),0,"fill.go:91",#[⟨8,.data⟩,⟨9,.data⟩,⟨7,.guard⟩],lJ (7,lK)⟩) (v:=undef) rfl (by kernel_rfl) (fun _ _ _ h=>h) hHeld (Or.inr ⟨by rfl,rfl⟩) ?_|(refine JL (i:=10) (oi:=⟨lJ 48,.indexAddr 23 (.tmp 46) (.tmp 47),0,"fill.go:91",#[⟨8,.data⟩,⟨9,.data⟩,⟨7,.guard⟩],lJ (7,lK)⟩) (v:=?_) rfl (by kernel_rfl) (fun _ _ _ h=>h) hHeld (Or.inl ⟨by rfl,?_⟩) ?_;rotate_left;(· (intro w hSw;(try dsimp only at hSw);go_simp;try with_reducible rfl))))
        simp only [Act.put,el,eu,es]
        (first|refine JL (i:=11) (oi:=⟨lJ 49,.fieldAddr 56 (.tmp 48) 2,0,"fill.go:91",#[⟨10,.data⟩,⟨7,.guard⟩],lJ (7,lK)⟩) (v:=undef) rfl (by kernel_rfl) (fun _ _ _ h=>h) hHeld (Or.inr ⟨by rfl,rfl⟩) ?_|(refine JL (i:=11) (oi:=⟨lJ 49,.fieldAddr 56 (.tmp 48) 2,0,"fill.go:91",#[⟨10,.data⟩,⟨7,.guard⟩],lJ (7,lK)⟩) (v:=?_) rfl (by kernel_rfl) (fun _ _ _ h=>h) hHeld (Or.inl ⟨by rfl,?_⟩) ?_;rotate_left;(· (intro w hSw;(try dsimp only at hSw);go_simp;try with_reducible rfl))))
        simp only [Act.put,el,eu,es]
        (first|refine JL (i:=12) (oi:=⟨lJ 50,.load 3 (.tmp 49),3,"fill.go:91",#[⟨11,.data⟩,⟨7,.guard⟩],lJ (7,lK)⟩) (v:=undef) rfl (by kernel_rfl) (fun _ _ _ h=>h) hHeld (Or.inr ⟨by rfl,rfl⟩) ?_|(refine JL (i:=12) (oi:=⟨lJ 50,.load 3 (.tmp 49),3,"fill.go:91",#[⟨11,.data⟩,⟨7,.guard⟩],lJ (7,lK)⟩) (v:=?_) rfl (by kernel_rfl) (fun _ _ _ h=>h) hHeld (Or.inl ⟨by rfl,?_⟩) ?_;rotate_left;(· (intro w hSw;(try dsimp only at hSw);go_simp;try with_reducible rfl))))
        simp only [Act.put,el,eu,es]
        (first|refine JL (i:=13) (oi:=⟨lJ 51,.binOp Go.BinOp.gtr 3 (.tmp 50) (.const (kW lD 0)) 3,4,"fill.go:91",#[⟨12,.data⟩,⟨7,.guard⟩],lJ (7,lK)⟩) (v:=undef) rfl (by kernel_rfl) (fun _ _ _ h=>h) hHeld (Or.inr ⟨by rfl,rfl⟩) ?_|(refine JL (i:=13) (oi:=⟨lJ 51,.binOp Go.BinOp.gtr 3 (.tmp 50) (.const (kW lD 0)) 3,4,"fill.go:91",#[⟨12,.data⟩,⟨7,.guard⟩],lJ (7,lK)⟩) (v:=?_) rfl (by kernel_rfl) (fun _ _ _ h=>h) hHeld (Or.inl ⟨by rfl,?_⟩) ?_;rotate_left;(· (intro w hSw;(try dsimp only at hSw);go_simp;try with_reducible rfl))))
        simp only [Act.put,el,eu,es]
        refine JL (i:=14) (oi:=⟨lJ 52,.pick (.tmp 45) (.tmp 51) (.const (kZ lL)),4,"fill.go:91",#[⟨7,.data⟩,⟨13,.data⟩],lI⟩) (v:=?_) rfl (by kernel_rfl) (fun _ _ _ h=>h) hHeld (Or.inl ⟨by rfl,?_⟩) ?_
        rotate_left
        (· (intro w hSw;(try dsimp only at hSw);go_simp;try with_reducible rfl))
        simp only [Act.put,el,eu,es]
        refine wpAnyH_ready (rs:=[4,15]) (by kernel_rfl) (by simp) ?_
        refine AllReadyH.cons (o:=⟨lJ 42,.load 73 (.tmp 41),73,"fill.go:91",#[⟨3,.data⟩],lI⟩) rfl (fun K hK=>?_) (AllReadyH.cons (o:=⟨lJ 53,.buildSlice 73 1 #[(0,.tmp 52)],73,"fill.go:91",#[⟨14,.data⟩],lI⟩) rfl (fun K hK=>?_) AllReadyH.nil)
        have c5d:=((brw V).drew.cell (p:=⟨w1.heap.size,5,lI⟩) lb).trans c5
        go_simp
        refine hK.out _ _ (hHeld) (fun hHeld=>?_)
        clear hK K
        try simp only [Act.put,el,eu,es]
        refine wpAnyH_ready (rs:=[15]) (by kernel_rfl) (by simp) ?_
        refine AllReadyH.cons (o:=⟨lJ 53,.buildSlice 73 1 #[(0,.tmp 52)],73,"fill.go:91",#[⟨14,.data⟩],lI⟩) rfl (fun K hK=>?_) AllReadyH.nil
        go_simp
        refine hK.out _ _ (HK.out _ (brf.alloc lR _).drew) (fun hHeld=>?_)
        clear hK K
        try simp only [Act.put,el,eu,es]
        rotate_left
        go_simp
        refine hK.out _ _ (HK.out _ (brf.alloc lR _).drew) (fun hHeld=>?_)
        clear hK K
        try simp only [Act.put,el,eu,es]
        have c5d:∀o,(V.alloc o).drew.cell? ⟨w1.heap.size,5,lI⟩=lJ (kX so5 sl.length sc5):=fun o=>(((brw V).alloc lR o).drew.cell (p:=⟨w1.heap.size,5,lI⟩) lb).trans c5
        refine wpAnyH_ready (rs:=[4]) (by kernel_rfl) (by simp) ?_
        refine AllReadyH.cons (o:=⟨lJ 42,.load 73 (.tmp 41),73,"fill.go:91",#[⟨3,.data⟩],lI⟩) rfl (fun K hK=>?_) AllReadyH.nil
        go_simp
        refine hK.out _ _ (hHeld) (fun hHeld=>?_)
        clear hK K
        try simp only [Act.put,el,eu,es]
        all_goals
          refine wpAnyH_ready (rs:=[16]) (by kernel_rfl) (by simp) ?_
          refine AllReadyH.cons (o:=⟨lJ 54,.call {callee:=.builtin .append,args:=#[.tmp 42,.tmp 53],argTypes:=#[73,73]},73,"fill.go:91",#[⟨4,.data⟩,⟨15,.data⟩,⟨7,.chain⟩],lI⟩) rfl (fun K hK=>?_) AllReadyH.nil
          refine uY rfl (.tmp 42) (.tmp 53) rfl (w1.heap.size+1) (kX so5 sl.length sc5) sl ⟨V.heap.size,0,lI⟩ 1 _ rfl rfl (HR3.out.s.iP (((brw V).alloc lR _).drew)) ((i1 V #[kZ _] 4).cell 0 _ rfl) (by have:=hsl.out;omega) (eh hsz ((((brw V).alloc lR _).drew)).size) ?_
          intro v5 w5 hO5 hT5 hB5
          obtain⟨to5,tc5,hv5⟩:=JM hO5
          generalize List.length _=L5 at hv5
          subst hv5
          have hx5:=hT5.bx (HR3.out.iP (((brw V).alloc lR _).drew)).box (by decide)
          have c5b:=hx5.cell 5 _ rfl
          have z5b:=hx5.frozen 5
          have lb5:=hx5.lt
          have HR5:=hid ((HR3.out.iP (((brw V).alloc lR _).drew)).appS hO5 hT5)
          have HBW:Hid (Bl w1 w5):=(HB4.out.trans (((((brw V).alloc lR _).drew)).mono HB4.out.size)).trans (hB5.mono (by omega))
          have HB5:Hid (Bl w1 (lG w5 ⟨w1.heap.size,5,lI⟩ (kX to5 L5 tc5))):=HBW.out.setCell lR _
          have h5S:lH w5 ⟨ub,uo+i*3+2,lI⟩=lJ (kW lD (ug us i).cap):=by
            obtain⟨ub9,uo9,_,_,_,hao9,_,_,_,a29,_⟩:=(HU.out.iP (et HB1.out HBW.out)).get hit
            cases hao9;exact a29
          clear hO5 hT5 hB5 hx5
          refine hK.out _ _ h5S (fun hHeld=>?_)
          clear hK K
          try simp only [Act.put,el,eu,es]
          refine JL (i:=17) (oi:=⟨lJ 55,.nilCheck (.tmp 38),0,"fill.go:91",#[⟨0,.data⟩,⟨0,.phase⟩,⟨1,.phase⟩,⟨2,.phase⟩,⟨3,.phase⟩,⟨4,.phase⟩,⟨5,.phase⟩,⟨6,.phase⟩,⟨7,.phase⟩,⟨8,.phase⟩,⟨9,.phase⟩,⟨10,.phase⟩,⟨11,.phase⟩,⟨12,.phase⟩,⟨13,.phase⟩,⟨14,.phase⟩,⟨15,.phase⟩,⟨16,.phase⟩],lI⟩) (v:=?_) rfl (by kernel_rfl) (fun _ _ _ h=>h) hHeld (Or.inl ⟨by rfl,?_⟩) ?_
          rotate_left
          (· (intro w hSw;(try dsimp only at hSw);go_simp;try with_reducible rfl))
          simp only [Act.put,el,eu,es]
          refine JL (i:=18) (oi:=⟨lJ 56,.fieldAddr 75 (.tmp 55) 5,0,"fill.go:91",#[⟨17,.data⟩,⟨0,.phase⟩,⟨1,.phase⟩,⟨2,.phase⟩,⟨3,.phase⟩,⟨4,.phase⟩,⟨5,.phase⟩,⟨6,.phase⟩,⟨7,.phase⟩,⟨8,.phase⟩,⟨9,.phase⟩,⟨10,.phase⟩,⟨11,.phase⟩,⟨12,.phase⟩,⟨13,.phase⟩,⟨14,.phase⟩,⟨15,.phase⟩,⟨16,.phase⟩],lI⟩) (v:=?_) rfl (by kernel_rfl) (fun _ _ _ h=>h) hHeld (Or.inl ⟨by rfl,?_⟩) ?_
          rotate_left
          (· (intro w hSw;(try dsimp only at hSw);go_simp;try with_reducible rfl))
          simp only [Act.put,el,eu,es]
          refine wpAnyH_ready (rs:=[19]) (by kernel_rfl) (by simp) ?_
          refine AllReadyH.cons (o:=⟨lI,.store 73 (.tmp 56) (.tmp 54),0,"fill.go:91",#[⟨18,.data⟩,⟨16,.data⟩,⟨16,.chain⟩,⟨0,.phase⟩,⟨1,.phase⟩,⟨2,.phase⟩,⟨3,.phase⟩,⟨4,.phase⟩,⟨5,.phase⟩,⟨6,.phase⟩,⟨7,.phase⟩,⟨8,.phase⟩,⟨9,.phase⟩,⟨10,.phase⟩,⟨11,.phase⟩,⟨12,.phase⟩,⟨13,.phase⟩,⟨14,.phase⟩,⟨15,.phase⟩,⟨16,.phase⟩],lI⟩) rfl (fun K hK=>?_) AllReadyH.nil
          go_simp
          refine hK.out _ _ ((lT hub).trans h5S) (fun hHeld=>?_)
          clear hK K
          try simp only [Act.put,el,eu,es]
          refine wpAnyH_done (by kernel_rfl) ?_ _
          refine NoPanic.normal ?_
          obtain⟨V6,hV6⟩:∃V6,V6=lG w5 ⟨w1.heap.size,5,lI⟩ (kX to5 L5 tc5):=⟨_,rfl⟩
          rw[<-hV6]at HR5 HB5 ⊢
          clear hV6 HBW h5S c5b z5b lb5 hHeld HK HR3 HB4 hsz c5 z5 lb a2 hbl c5d
          have hbx:=HR5.out.box
          obtain⟨so4,sc4,hvh⟩:=JM HR5.out.h
          subst hvh
          have c4:=hbx.cell 4 _ rfl
          have lb:=hbx.lt
          clear hbx
          have hsz:w1.heap.size+1<=V6.heap.size:=lb
          have HAL:Hid (RisP (V6.alloc (lE #[kX lI 0 0] 22)) w1.heap.size (kX po pool.length pc) (kX (lJ ⟨ub,uo,lI⟩) us.length cap) qo qn qc i _ _ _ (kX so4 i sc4) _):=HR5.out.iP (brf.alloc lR _)
          have HOL:Hid ((V6.alloc (lE #[kX lI 0 0] 22)).ownsRow (w1.heap.size+1) 22 1 (kX so4 i sc4) (List.replicate i (Value.slice lI 0 0)).length (List.replicate i (Value.slice lI 0 0))):=by rw[iD];exact HAL.out.h
          go_wp2_with (at_builtin;refine sj _ rfl _ _ rfl (w1.heap.size+1) _ (List.replicate i (Value.slice lI 0 0)) ⟨V6.heap.size,0,lI⟩ 1 (kX lI 0 0) rfl rfl HOL.out ((i1 V6 #[kX lI 0 0] 22).cell 0 _ rfl) rfl (by rw[iD];omega) (by simp only [em];omega) ?_)
          intro v8 w8 hO8 hT8 hB8
          have hO8:w8.ownsRow (w1.heap.size+1) 22 1 v8 (i+1) (List.replicate i (Value.slice lI 0 0)++[Value.slice lI 0 0]):=by have h9:=hO8;first|exact h9|(rw[eK,iD]at h9;exact h9)
          obtain⟨to8,tc8,hv8⟩:=JM hO8
          generalize hL8:i+1=L8 at hv8
          subst hv8
          clear hL8
          have HR8:=hid (HAL.out.appH hO8 hT8)
          have hx8:=hT8.bx HAL.out.box (by decide)
          have c4b:=hx8.cell 4 _ rfl
          have z4b:=hx8.frozen 4
          have lb8:=hx8.lt
          have HB8:Hid (Bl w1 (lG w8 ⟨w1.heap.size,4,lI⟩ (kX to8 L8 tc8))):=(((HB5.out.alloc HB5.out.size _).trans (hB8.mono (by omega)))).setCell lR _
          clear hO8 hT8 hB8 hx8 HOL HAL HR5 HB5 c4 lb hsz
          go_wp2
          go_roundg (us.length-(i+1))
          case measure=>omega
          case rel =>
            have htl9:=htl.out
            have hsl9:=hsl.out
            refine⟨i+1,_,_,_,_,_,rfl,by omega,by go_num,by show(tl++[_]).length=_;simp;omega,by show(sl++[_]).length=_;simp;omega,HR8.out,fun j hj=>?_,fun j hj=>?_,HB8.out⟩
            · by_cases e:j=i
              · rw[e,Jy htl9];exact HTI.out
              · rw[qx (by omega)];exact HTO.out j (by omega)
            · by_cases e:j=i
              · rw[e,Jz hsl9,Jy htl9];simp
              · rw[AX (by omega),qx (by omega)];exact HSO.out j (by omega)
    · (obtain rfl:i=us.length:=by omega);obtain⟨B2,hB2_⟩:∃B2,B2=wr.heap.size:=⟨_,rfl⟩;(have HM:Hid (RisM wr (⟨w,po,pc,pool,ao,cap,us,w1.heap.size,w1.heap.size+1,B2⟩:RD) (⟨tl,[],List.replicate us.length 0,sl,1⟩:RV)):=by rw[hB2_];exact HR.out.rise HP.out HU.out HB1.out hB.out HQ.out);have HOK:Hid (RD.Ok (⟨w,po,pc,pool,ao,cap,us,w1.heap.size,w1.heap.size+1,B2⟩:RD)):=⟨HG.out,HPA.out,hn6,hk1,hk4⟩;have HTP:Hid (Tops (⟨w,po,pc,pool,ao,cap,us,w1.heap.size,w1.heap.size+1,B2⟩:RD) tl):=HTO.out;(have HLT:Hid (w1.heap.size<B2):=by show w1.heap.size<B2;have:=HR.out.box.lt;omega);(have HB20:Hid (B2<=wr.heap.size):=by show B2<=wr.heap.size;omega);clear hB2_ HR HTO hB;go_wp2
      go_loopg[8] us.length (fun gg ix wr=>∃(i:Nat) (gl:List Nat),gg=us.length-i/\i<=us.length/\ix=kW lD i/\Hid (gl.length=i)/\Hid (RisM wr (⟨w,po,pc,pool,ao,cap,us,w1.heap.size,w1.heap.size+1,B2⟩:RD) (⟨tl,gl,List.replicate us.length 0,sl,1⟩:RV))/\Hid (∀j,j<i->nn gl j=grT (⟨w,po,pc,pool,ao,cap,us,w1.heap.size,w1.heap.size+1,B2⟩:RD) tl j)/\Hid (B2<=wr.heap.size))
      case atStart=>exact⟨0,[],rfl,ep _,rfl,rfl,HM.out,fun j hj=>by omega,HB20.out⟩
      case round=>
        clear HM HB20;obtain⟨i,gl,hgi,hi,rfl,HGL,HM,HGR,HB2_⟩:=hrel;by_cases hit:i<us.length
        · (have hin:(i:Int)<(us.length:Int):=by omega);obtain⟨vt2,vg2,vh2,vs2,qo2,qn2,qc2,hbx2,hot2,hog2,hoh2,hos2,hoq2,hlt2_⟩:=HM.out.box;have bl2:w1.heap.size<wr.heap.size:=hbx2.lt;have e2a2:lH wr ⟨w1.heap.size,2,lI⟩=lJ vt2:=hbx2.cell 2 _ rfl;obtain⟨tto2,ttc2,rfl,htra2,_⟩:=hot2.row;(have htr2:Row wr tto2 us.length ttc2 tl:=by have h9:=htra2;rw[show((⟨tl,gl,List.replicate us.length 0,sl,1⟩:RV):RV).tl=tl from rfl,htl.out]at h9;exact h9);(have e22:lH wr ⟨w1.heap.size,2,lI⟩=lJ (kX tto2 us.length ttc2):=by have h9:=e2a2;rw[show((⟨tl,gl,List.replicate us.length 0,sl,1⟩:RV):RV).tl=tl from rfl,htl.out]at h9;exact h9);clear e2a2 htra2;obtain⟨tb2,tof2,htt2,htb2⟩:=htr2.head (by omega);rw[htt2]at e22;have ct2:=htr2.cell tb2 tof2 htt2 i (by omega);clear htr2 htt2;clear hbx2 hot2 hog2 hoh2 hos2 hoq2 hlt2_;rcases HTP.out.get HOK.out hit with⟨htv,_⟩|⟨hti,hte,hT1⟩
          · rw[htv]at ct2;(have HG0:Hid (0=grT (⟨w,po,pc,pool,ao,cap,us,w1.heap.size,w1.heap.size+1,B2⟩:RD) tl i):=by unfold Hid grT;rw[ec (by rw[htv];omega)]);clear htv;obtain⟨vtz,vgz,vhz,vsz,qoz,qnz,qcz,hbxz,hotz,hogz,hohz,hosz,hoqz,hltz_⟩:=HM.out.box;have blz:w1.heap.size<wr.heap.size:=hbxz.lt;have e3z:lH wr ⟨w1.heap.size,3,lI⟩=lJ vgz:=hbxz.cell 3 _ rfl;obtain⟨gz,gcz,rfl⟩:=hogz.kE;have hsz:B2<=wr.heap.size:=HB2_.out;have HAN:=hid (HM.out.iP ((brw wr).alloc lR (lE #[kX lI 0 0] 22)));have HOZ:=hid (hogz.iP ((brw wr).alloc lR (lE #[kX lI 0 0] 22)));have HRZ:=hid (Row.iP (show Row wr lI 0 0 (zA 0)from(by rw[JD];exact Row.nil wr)) ((brw wr).alloc lR (lE #[kX lI 0 0] 22)));clear hbxz hotz hogz hohz hosz hoqz hltz_;go_wp2_with (at_builtin;refine u6 _ rfl _ _ rfl B2 _ gl ⟨wr.heap.size,0,lI⟩ 1 (0) lI 0 0 rfl rfl HOZ.out ((i1 wr #[kX lI 0 0] 22).cell 0 _ rfl) HRZ.out (by have:=HGL.out;omega) (by simp only[em];omega) ?_);intro v9 w9 hO9 hT9 hB9;obtain⟨so9,sc9,hv9⟩:=hO9.kE;generalize(gl++[0]).length=L9 at hv9;subst hv9;have HM9:=hid (HAN.out.appGrow hO9 hT9 hB9);have hx9:=(hB9.block w1.heap.size (by have:=HLT.out;omega));obtain⟨vt9,vg9,vh9,vs9,qo9,qn9,qc9,hbx9,_⟩:=HAN.out.box;have hbx9:=hbx9.iP hB9 HLT.out;obtain⟨lb9,c39,z39⟩:=hbx9.s 3 rfl;(have HS9:Hid (B2<=(lG w9 ⟨w1.heap.size,3,lI⟩ (kX so9 L9 sc9)).heap.size):=by have h9:=hB9.size;simp only[em]at h9;show B2<=(World.setCell _ _ _).heap.size;simp only[World.setCell];first|omega|(simp;omega));clear hO9 hT9 hB9 hx9 hbx9 HAN HOZ HRZ;go_wp2;go_roundg (us.length-(i+1));case measure=>omega
            case rel=>
              refine⟨i+1,gl++[0],rfl,by omega,by go_num,by show(gl++[_]).length=_;have:=HGL.out;simp;omega,HM9.out,fun j hj=>?_,HS9.out⟩;have hgl9:=HGL.out;by_cases e:j=i
              · subst e;rw[<-hgl9,uN,hgl9];exact HG0.out
              · rw[uM (by omega)];exact HGR.out j (by omega)
          · have HT1:=hid hT1;have HTI:=hid hti;obtain⟨m,hm⟩:∃m:Nat,m=(lm tl i).toNat:=⟨_,rfl⟩;(have hmt:lm tl i=(m:Int):=by omega);rw[hmt]at ct2;(have hmk:m<pool.length:=by rw[hm];exact HT1.out.lt);(have hmki:(m:Int)<(pool.length:Int):=by omega);have HMM:=hid hm;clear hmt hm hT1 hte hti;obtain⟨ub,uo,da,dn,dc,hao,hbl,a0,a1,a2,hd⟩:=HM.out.kr.get hit;change ao=_ at hao;obtain⟨ppb,pof,hpo,hppb⟩:=HM.out.kq.head (by show 0<pool.length;omega);have cp:=HM.out.kq.int hpo hmk;change po=_ at hpo;change wr.cell? _=lJ (kW lD (lm pool m))at cp;clear a0 a2 hd;obtain⟨M1,hM1⟩:∃M,M=(⟨w,po,pc,pool,ao,cap,us,w1.heap.size,w1.heap.size+1,B2⟩:RD).a.W i:=⟨_,rfl⟩;obtain⟨M2,hM2⟩:∃M,M=(⟨w,po,pc,pool,ao,cap,us,w1.heap.size,w1.heap.size+1,B2⟩:RD).a.P m:=⟨_,rfl⟩;(have a1b:lH wr ⟨ub,uo+i*3+1,lI⟩=lJ (kW lD (M1:Int)):=by rw[a1,hM1,<-RD.W_eq HOK.out hit]);(have cpb:lH wr ⟨ppb,pof+m,lI⟩=lJ (kW lD (M2:Int)):=by rw[cp,hM2,<-RD.P_eq HOK.out m]);obtain⟨X1,hX1,hX1b,hX1e⟩:=Gf (a:=M1) (b:=M2) (A:=100) (B:=10000) (by rw[hM1];exact(RD.W_le HOK.out hit).2) (by rw[hM2];exact RD.P_le HOK.out m);have hX1w:IntKind.i64.wrap (X1:Int)=(X1:Int):=eF _ ⟨by omega,by omega⟩;(have HX1:Hid (X1=(⟨w,po,pc,pool,ao,cap,us,w1.heap.size,w1.heap.size+1,B2⟩:RD).a.W i*(⟨w,po,pc,pool,ao,cap,us,w1.heap.size,w1.heap.size+1,B2⟩:RD).a.P m):=by rw[Hid,hX1e,hM1,hM2]);clear a1 cp hM1 hM2 hX1e;subst hao;subst hpo;(go_upto_region 14 with fail);(have SK:Hid (∀U,Bl wr U->lH U ⟨ub,uo+i*3+1,lI⟩=lJ (kW lD (M1:Int))/\lH U ⟨w1.heap.size,2,lI⟩=lJ (kX (lJ ⟨tb2,tof2,lI⟩) us.length ttc2)/\lH U ⟨tb2,tof2+i,lI⟩=lJ (kW lD (m:Int))/\lH U ⟨ppb,pof+m,lI⟩=lJ (kW lD (M2:Int))):=fun U h=>⟨qs h a1b hbl,qs h e22 bl2,qs h ct2 htb2,qs h cpb hppb⟩);obtain⟨da1b,de22,dct2,dcpb⟩:=SK.out _ (brw wr).drew;go_region_held3 (fun w'=>lH w' ⟨ub,uo+i*3+1,lI⟩=lJ (kW lD (M1:Int))/\lH w' ⟨w1.heap.size,2,lI⟩=lJ (kX (lJ ⟨tb2,tof2,lI⟩) us.length ttc2)/\lH w' ⟨tb2,tof2+i,lI⟩=lJ (kW lD (m:Int))/\lH w' ⟨ppb,pof+m,lI⟩=lJ (kW lD (M2:Int))) (first|exact SK.out _ brf.drew|exact SK.out _ hv61g0) (first|(go_at_call 35;refine(JN (by omega)).mono ?_;rintro e61g0 w61g0 ⟨v1,rfl,⟨wo,wn,wc,rfl,hwr,_⟩,hb61g0⟩;have hv61g0:Bl wr w61g0:=(brw wr).drew.trans (hb61g0.mono ((brw wr).drew).size);clear hb61g0;have HWR:=hid hwr;clear hwr));clear SK da1b de22 dct2 dcpb;have Rm_62:=hid (HM.out.iP hv61g0);clear HM;(have HWR2:Hid (Row w61g0 wo wn wc (zA ((⟨w,(lJ ⟨ppb,pof,lI⟩),pc,pool,(lJ ⟨ub,uo,lI⟩),cap,us,w1.heap.size,w1.heap.size+1,B2⟩:RD).a.W i*(⟨w,(lJ ⟨ppb,pof,lI⟩),pc,pool,(lJ ⟨ub,uo,lI⟩),cap,us,w1.heap.size,w1.heap.size+1,B2⟩:RD).a.P m*xA (gF (⟨w,(lJ ⟨ppb,pof,lI⟩),pc,pool,(lJ ⟨ub,uo,lI⟩),cap,us,w1.heap.size,w1.heap.size+1,B2⟩:RD) tl i) 0))):=by show Row _ _ _ _ (zA (_*1));rw[ic,<-HX1.out];exact HWR.out);have HB2o:Hid (B2<=w61g0.heap.size):=eh HB2_.out hv61g0.size;clear HWR a1b e22 ct2 cpb hbl bl2 htb2 hppb hX1 hX1w hv61g0 HB2_;go_wp2
            go_loopg[9,10] us.length (fun gg s9 ix wr=>∃(j:Nat) (ro:Option Addr) (rn rc:Nat),gg=us.length-j/\j<=us.length/\s9=kX ro rn rc/\ix=kW lD j/\Hid (Row wr ro rn rc (zA ((⟨w,(lJ ⟨ppb,pof,lI⟩),pc,pool,(lJ ⟨ub,uo,lI⟩),cap,us,w1.heap.size,w1.heap.size+1,B2⟩:RD).a.W i*(⟨w,(lJ ⟨ppb,pof,lI⟩),pc,pool,(lJ ⟨ub,uo,lI⟩),cap,us,w1.heap.size,w1.heap.size+1,B2⟩:RD).a.P m*xA (gF (⟨w,(lJ ⟨ppb,pof,lI⟩),pc,pool,(lJ ⟨ub,uo,lI⟩),cap,us,w1.heap.size,w1.heap.size+1,B2⟩:RD) tl i) j)))/\Hid (Bl w61g0 wr))
            case atStart=>exact⟨0,_,_,_,rfl,ep _,rfl,rfl,HWR2.out,eB _ _⟩
            case round=>
              clear HWR2;obtain⟨j,ro,rn,rc,hgj,hj,rfl,rfl,HRR,HB3⟩:=hrel;have HM3:=hid (Rm_62.out.iP HB3.out);(have lrn:rn<=8:=by rw[<-HRR.out.len];exact Jj HOK.out hit m j hj);by_cases hjt:j<us.length
              · (have hjn:(j:Int)<(us.length:Int):=by omega);obtain⟨vt3,vg3,vh3,vs3,qo3,qn3,qc3,hbx3,hot3,hog3,hoh3,hos3,hoq3,hlt3_⟩:=HM3.out.box;have bl3:w1.heap.size<wr.heap.size:=hbx3.lt;have e2a3:lH wr ⟨w1.heap.size,2,lI⟩=lJ vt3:=hbx3.cell 2 _ rfl;obtain⟨tto3,ttc3,rfl,htra3,_⟩:=hot3.row;(have htr3:Row wr tto3 us.length ttc3 tl:=by have h9:=htra3;rw[show((⟨tl,gl,List.replicate us.length 0,sl,1⟩:RV):RV).tl=tl from rfl,htl.out]at h9;exact h9);(have e23:lH wr ⟨w1.heap.size,2,lI⟩=lJ (kX tto3 us.length ttc3):=by have h9:=e2a3;rw[show((⟨tl,gl,List.replicate us.length 0,sl,1⟩:RV):RV).tl=tl from rfl,htl.out]at h9;exact h9);clear e2a3 htra3;obtain⟨tb3,tof3,htt3,htb3⟩:=htr3.head (by omega);rw[htt3]at e23;have ct3:=htr3.cell tb3 tof3 htt3 j (by omega);clear htr3 htt3;clear hbx3 hot3 hog3 hoh3 hos3 hoq3 hlt3_;have HSTEP:Hid (xA (gF (⟨w,(lJ ⟨ppb,pof,lI⟩),pc,pool,(lJ ⟨ub,uo,lI⟩),cap,us,w1.heap.size,w1.heap.size+1,B2⟩:RD) tl i) (j+1)=xA (gF (⟨w,(lJ ⟨ppb,pof,lI⟩),pc,pool,(lJ ⟨ub,uo,lI⟩),cap,us,w1.heap.size,w1.heap.size+1,B2⟩:RD) tl i) j*gF (⟨w,(lJ ⟨ppb,pof,lI⟩),pc,pool,(lJ ⟨ub,uo,lI⟩),cap,us,w1.heap.size,w1.heap.size+1,B2⟩:RD) tl i j):=rfl;by_cases hji:j=i
                · have HJI:=hid hji;(have HG1:Hid (gF (⟨w,(lJ ⟨ppb,pof,lI⟩),pc,pool,(lJ ⟨ub,uo,lI⟩),cap,us,w1.heap.size,w1.heap.size+1,B2⟩:RD) tl i j=1):=by unfold Hid gF;rw[ec (fun h5=>h5.1 HJI.out)]);(have hjf:((j:Int) != (i:Int))=lL:=by rw[hji];simp);(have hjg:((j:Int) == (i:Int))=lK:=by rw[hji];simp);clear hji;go_wp2;go_roundg (us.length-(j+1));exact⟨j+1,ro,rn,rc,rfl,by omega,rfl,by go_num,by rw[HSTEP.out,HG1.out,ic];exact HRR.out,HB3.out⟩;omega
                · (have hje:((j:Int) == (i:Int))=lL:=by rw[eg];omega);(have hjf:((j:Int) != (i:Int))=lK:=by simp[bne,hje]);have HJN:=hid hji;clear hji;rcases HTP.out.get HOK.out hjt with⟨htv,_⟩|⟨hti,hte,hT1⟩
                  · (have HG1:Hid (gF (⟨w,(lJ ⟨ppb,pof,lI⟩),pc,pool,(lJ ⟨ub,uo,lI⟩),cap,us,w1.heap.size,w1.heap.size+1,B2⟩:RD) tl i j=1):=by unfold Hid gF;rw[ec (fun h5=>by rw[htv]at h5;exact absurd h5.2 (by omega))]);rw[htv]at ct3;clear htv;go_wp2;go_roundg (us.length-(j+1));exact⟨j+1,ro,rn,rc,rfl,by omega,rfl,by go_num,by rw[HSTEP.out,HG1.out,ic];exact HRR.out,HB3.out⟩;omega
                  · obtain⟨q,hq⟩:∃q:Nat,q=(lm tl j).toNat:=⟨_,rfl⟩;(have hqt:lm tl j=(q:Int):=by omega);rw[hqt]at ct3;(have HG1:Hid (gF (⟨w,(lJ ⟨ppb,pof,lI⟩),pc,pool,(lJ ⟨ub,uo,lI⟩),cap,us,w1.heap.size,w1.heap.size+1,B2⟩:RD) tl i j=(⟨w,(lJ ⟨ppb,pof,lI⟩),pc,pool,(lJ ⟨ub,uo,lI⟩),cap,us,w1.heap.size,w1.heap.size+1,B2⟩:RD).a.D j q):=by unfold Hid gF RD.tD;rw[ed ⟨HJN.out,hti⟩,<-hq]);(have hqk:q<pool.length:=by rw[hq];exact hT1.lt);(have hqki:(q:Int)<(pool.length:Int):=by omega);clear hqt hq hT1 hte hti;obtain⟨ub3,uo3,da3,dn3,dc3,hao3,hbl3,a03,a13,a23,hd3⟩:=HM3.out.kr.get hjt;change lJ _=_ at hao3
                    cases hao3
                    have hdl3:=hd3.len;rw[j9]at hdl3;(have hdl3:pool.length=dn3:=by rw[<-hdl3];exact(HG.out.len hjt).symm);subst hdl3;obtain⟨db3,dof3,hdo3,hdb3⟩:=hd3.head (by omega);have cd3:=hd3.int hdo3 hqk;rw[hdo3]at a03;clear a13 a23 hd3 hdo3;obtain⟨M4,hM4⟩:∃M,M=(⟨w,(lJ ⟨ppb,pof,lI⟩),pc,pool,(lJ ⟨ub,uo,lI⟩),cap,us,w1.heap.size,w1.heap.size+1,B2⟩:RD).a.D j q:=⟨_,rfl⟩;(have cd3b:lH wr ⟨db3,dof3+q,lI⟩=lJ (kW lD (M4:Int)):=by rw[cd3,hM4,<-RD.D_eq HOK.out hjt q]);(have hM4b:M4<=10000:=by rw[hM4];exact RD.D_le HOK.out hjt q);have HM4:=hid hM4;clear cd3 hM4;(go_upto_region 19 with fail);(have SK:Hid (∀U,Bl wr U->lH U ⟨ub,uo+j*3,lI⟩=lJ (kX (lJ ⟨db3,dof3,lI⟩) pool.length dc3)/\lH U ⟨w1.heap.size,2,lI⟩=lJ (kX (lJ ⟨tb3,tof3,lI⟩) us.length ttc3)/\lH U ⟨tb3,tof3+j,lI⟩=lJ (kW lD (q:Int))/\lH U ⟨db3,dof3+q,lI⟩=lJ (kW lD (M4:Int))):=fun U h=>⟨qs h a03 hbl3,qs h e23 bl3,qs h ct3 htb3,qs h cd3b hdb3⟩);obtain⟨da03,de23,dct3,dcd3b⟩:=SK.out _ (brw wr).drew;go_region_held3 (fun w'=>lH w' ⟨ub,uo+j*3,lI⟩=lJ (kX (lJ ⟨db3,dof3,lI⟩) pool.length dc3)/\lH w' ⟨w1.heap.size,2,lI⟩=lJ (kX (lJ ⟨tb3,tof3,lI⟩) us.length ttc3)/\lH w' ⟨tb3,tof3+j,lI⟩=lJ (kW lD (q:Int))/\lH w' ⟨db3,dof3+q,lI⟩=lJ (kW lD (M4:Int))) (first|exact SK.out _ brf.drew|exact SK.out _ hv91g0|exact SK.out _ hv91g1) (first|(go_at_call 37;refine(JK (x:=(⟨w,(lJ ⟨ppb,pof,lI⟩),pc,pool,(lJ ⟨ub,uo,lI⟩),cap,us,w1.heap.size,w1.heap.size+1,B2⟩:RD).a.W i*(⟨w,(lJ ⟨ppb,pof,lI⟩),pc,pool,(lJ ⟨ub,uo,lI⟩),cap,us,w1.heap.size,w1.heap.size+1,B2⟩:RD).a.P m*xA (gF (⟨w,(lJ ⟨ppb,pof,lI⟩),pc,pool,(lJ ⟨ub,uo,lI⟩),cap,us,w1.heap.size,w1.heap.size+1,B2⟩:RD) tl i) j) (HRR.out.iP hv91g0) HWR4.out (by omega) (by omega)).mono ?_;rintro e91g1 w91g1 ⟨v5,rfl,⟨po5,pn5,pc5,rfl,hpr5,_⟩,hb91g1⟩;have hv91g1:Bl wr w91g1:=et hv91g0 hb91g1;clear hb91g1;have HPR5:=hid hpr5;clear hpr5)|(go_at_call 35;refine(JN (by omega)).mono ?_;rintro e91g0 w91g0 ⟨v4,rfl,⟨wo4,wn4,wc4,rfl,hwr4,_⟩,hb91g0⟩;have hv91g0:Bl wr w91g0:=(brw wr).drew.trans (hb91g0.mono ((brw wr).drew).size);clear hb91g0;have lw4:wn4<=2:=(by rw[<-hwr4.len];exact lQ hM4b);have HWR4:=hid hwr4;clear hwr4));clear SK da03 de23 dct3 dcd3b;have HB_92:Hid (Below (w61g0.heap.size) w61g0 w91g1):=et HB3.out hv91g1;clear HB3;clear a03 e23 ct3 cd3b hbl3 bl3 htb3 hdb3;go_wp2;go_roundg (us.length-(j+1));exact⟨j+1,po5,pn5,pc5,rfl,by omega,rfl,by go_num,by rw[HSTEP.out,HG1.out,<-HM4.out,<-Nat.mul_assoc];exact HPR5.out,HB_92.out⟩;omega
              · (obtain rfl:j=us.length:=by omega);(have HG0:Hid ((⟨w,(lJ ⟨ppb,pof,lI⟩),pc,pool,(lJ ⟨ub,uo,lI⟩),cap,us,w1.heap.size,w1.heap.size+1,B2⟩:RD).a.W i*(⟨w,(lJ ⟨ppb,pof,lI⟩),pc,pool,(lJ ⟨ub,uo,lI⟩),cap,us,w1.heap.size,w1.heap.size+1,B2⟩:RD).a.P m*xA (gF (⟨w,(lJ ⟨ppb,pof,lI⟩),pc,pool,(lJ ⟨ub,uo,lI⟩),cap,us,w1.heap.size,w1.heap.size+1,B2⟩:RD) tl i) us.length=grT (⟨w,(lJ ⟨ppb,pof,lI⟩),pc,pool,(lJ ⟨ub,uo,lI⟩),cap,us,w1.heap.size,w1.heap.size+1,B2⟩:RD) tl i):=by unfold Hid grT;rw[ed HTI.out,<-HMM.out]);have HB2_:Hid (B2<=wr.heap.size):=eh HB2o.out HB3.out.size;obtain⟨vtz,vgz,vhz,vsz,qoz,qnz,qcz,hbxz,hotz,hogz,hohz,hosz,hoqz,hltz_⟩:=HM3.out.box;have blz:w1.heap.size<wr.heap.size:=hbxz.lt;have e3z:lH wr ⟨w1.heap.size,3,lI⟩=lJ vgz:=hbxz.cell 3 _ rfl;obtain⟨gz,gcz,rfl⟩:=hogz.kE;have hsz:B2<=wr.heap.size:=HB2_.out;have HAN:=hid (HM3.out.iP ((brw wr).alloc lR (lE #[kX ro rn rc] 22)));have HOZ:=hid (hogz.iP ((brw wr).alloc lR (lE #[kX ro rn rc] 22)));have HRZ:=hid (Row.iP HRR.out ((brw wr).alloc lR (lE #[kX ro rn rc] 22)));clear hbxz hotz hogz hohz hosz hoqz hltz_;go_wp2_with (at_builtin;refine u6 _ rfl _ _ rfl B2 _ gl ⟨wr.heap.size,0,lI⟩ 1 ((⟨w,(lJ ⟨ppb,pof,lI⟩),pc,pool,(lJ ⟨ub,uo,lI⟩),cap,us,w1.heap.size,w1.heap.size+1,B2⟩:RD).a.W i*(⟨w,(lJ ⟨ppb,pof,lI⟩),pc,pool,(lJ ⟨ub,uo,lI⟩),cap,us,w1.heap.size,w1.heap.size+1,B2⟩:RD).a.P m*xA (gF (⟨w,(lJ ⟨ppb,pof,lI⟩),pc,pool,(lJ ⟨ub,uo,lI⟩),cap,us,w1.heap.size,w1.heap.size+1,B2⟩:RD) tl i) us.length) ro rn rc rfl rfl HOZ.out ((i1 wr #[kX ro rn rc] 22).cell 0 _ rfl) HRZ.out (by have:=HGL.out;omega) (by simp only[em];omega) ?_);intro v9 w9 hO9 hT9 hB9;obtain⟨so9,sc9,hv9⟩:=hO9.kE;generalize(gl++[(⟨w,(lJ ⟨ppb,pof,lI⟩),pc,pool,(lJ ⟨ub,uo,lI⟩),cap,us,w1.heap.size,w1.heap.size+1,B2⟩:RD).a.W i*(⟨w,(lJ ⟨ppb,pof,lI⟩),pc,pool,(lJ ⟨ub,uo,lI⟩),cap,us,w1.heap.size,w1.heap.size+1,B2⟩:RD).a.P m*xA (gF (⟨w,(lJ ⟨ppb,pof,lI⟩),pc,pool,(lJ ⟨ub,uo,lI⟩),cap,us,w1.heap.size,w1.heap.size+1,B2⟩:RD) tl i) us.length]).length=L9 at hv9;subst hv9;have HM9:=hid (HAN.out.appGrow hO9 hT9 hB9);have hx9:=(hB9.block w1.heap.size (by have:=HLT.out;omega));obtain⟨vt9,vg9,vh9,vs9,qo9,qn9,qc9,hbx9,_⟩:=HAN.out.box;have hbx9:=hbx9.iP hB9 HLT.out;obtain⟨lb9,c39,z39⟩:=hbx9.s 3 rfl;(have HS9:Hid (B2<=(lG w9 ⟨w1.heap.size,3,lI⟩ (kX so9 L9 sc9)).heap.size):=by have h9:=hB9.size;simp only[em]at h9;show B2<=(World.setCell _ _ _).heap.size;simp only[World.setCell];first|omega|(simp;omega));clear hO9 hT9 hB9 hx9 hbx9 HAN HOZ HRZ;go_wp2;go_roundg (us.length-(i+1));case measure=>omega
                case rel=>
                  refine⟨i+1,gl++[(⟨w,(lJ ⟨ppb,pof,lI⟩),pc,pool,(lJ ⟨ub,uo,lI⟩),cap,us,w1.heap.size,w1.heap.size+1,B2⟩:RD).a.W i*(⟨w,(lJ ⟨ppb,pof,lI⟩),pc,pool,(lJ ⟨ub,uo,lI⟩),cap,us,w1.heap.size,w1.heap.size+1,B2⟩:RD).a.P m*xA (gF (⟨w,(lJ ⟨ppb,pof,lI⟩),pc,pool,(lJ ⟨ub,uo,lI⟩),cap,us,w1.heap.size,w1.heap.size+1,B2⟩:RD) tl i) us.length],rfl,by omega,by go_num,by show(gl++[_]).length=_;have:=HGL.out;simp;omega,HM9.out,fun j hj=>?_,HS9.out⟩;have hgl9:=HGL.out;by_cases e:j=i
                  · subst e;rw[<-hgl9,uN,hgl9];exact HG0.out
                  · rw[uM (by omega)];exact HGR.out j (by omega)
        · (obtain rfl:i=us.length:=by omega);have HBG:Hid (RBeg (⟨w,po,pc,pool,ao,cap,us,w1.heap.size,w1.heap.size+1,B2⟩:RD) (⟨tl,gl,List.replicate us.length 0,sl,1⟩:RV)):=⟨htl.out,HGL.out,iD,hsl.out,HTP.out,HGR.out,fun i hi=>(by show nn (List.replicate us.length 0) i=0;unfold nn;rw[ej,List.getElem?_replicate];split<;>rfl),HSO.out,rfl⟩;go_wp2;go_ret;exact⟨_,_,_,_,rfl,HM.out,HBG.out,HM.out.bel⟩
end Go.Proofs.YtigokanoflkinaaGreatDoor
