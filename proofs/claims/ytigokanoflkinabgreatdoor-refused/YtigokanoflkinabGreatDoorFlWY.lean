/- FlW, FlX, FlY, joined. -/
import Derived.Test.YtigokanoflkinabGreatDoorFlUV
set_option maxHeartbeats 8000000
set_option maxRecDepth 20000
namespace Go.Proofs.YtigokanoflkinabGreatDoor
set_option linter.unusedSimpArgs false
set_option linter.unusedVariables false
open Go.RowKit Por
theorem Enc.setDue {M:Nat->Value}{F:Flt}(h:Enc M F){u:Nat}(hu:u<6)(x:ByteArray):Enc (xM M (43+u*22+16) (.string x)) { F with due:=updB F.due u x }:=by
 refine ⟨?_,?_,?_,fun i hi=>?_,fun i hi r hr=>?_,fun v hv=>?_,fun v hv r hr=>?_,fun v hv=>?_,fun v hv=>?_,fun v hv=>?_,fun v hv m hm=>?_,fun v hv=>?_,fun v hv=>?_,fun v hv r hr=>?_,?_,fun r hr=>?_⟩
 ·rw[jAA _ _ (by omega)];exact h.k
 ·rw[jAA _ _ (by omega)];exact h.mg
 ·rw[jAA _ _ (by omega)];exact h.ug
 ·rw[jAA _ _ (by omega)];exact h.mt i hi
 ·rw[jAA _ _ (by omega)];exact h.ms i hi r hr
 ·rw[jAA _ _ (by omega)];exact h.ut v hv
 ·rw[jAA _ _ (by omega)];exact h.ud v hv r hr
 ·rw[jAA _ _ (by omega)];exact h.uw v hv
 ·rw[jAA _ _ (by omega)];exact h.uc v hv
 ·rw[jAA _ _ (by omega)];exact h.wait v hv
 ·rw[jAA _ _ (by omega)];exact h.on v hv m hm
 ·by_cases e:v=u
  ·subst e;rw[jAs];show _=Value.string (updB F.due v x v);unfold updB;rw[if_pos rfl]
  ·rw[jAA _ _ (by omega)];show _=Value.string (updB F.due u x v);unfold updB;rw[if_neg e];exact h.due v hv
 ·rw[jAA _ _ (by omega)];exact h.rev v hv
 ·rw[jAA _ _ (by omega)];exact h.used v hv r hr
 ·rw[jAA _ _ (by omega)];exact h.ck
 ·rw[jAA _ _ (by omega)];exact h.idle r hr
abbrev yA (F:Flt)(D:Nat->ByteArray):Flt:={ F with due:=D }
theorem FL.setDue {w:World}{b:Nat}{F:Flt}(h:FL w b F){u:Nat}(hu:u<6)(x:ByteArray):FL (w.setCell ⟨b,43+u*22+16,none⟩ (.string x)) b (yA F (updB F.due u x)):=by
 obtain ⟨M,a,c⟩:=h;exact ⟨_,a.set _ _,c.setDue hu x⟩
theorem FL.cDue {w:World}{b:Nat}{F:Flt}(h:FL w b F){u:Nat}(hu:u<6):w.cell? ⟨b,43+u*22+16,none⟩=some (.string (F.due u))/\w.frozen? ⟨b,43+u*22+16,none⟩=false:=by
 obtain ⟨M,a,c⟩:=h;rw[a.cell (by omega),c.due u hu];exact ⟨rfl,a.frozen _⟩
structure Only2 (B b c:Nat)(w w':World):Prop where
  os:w'.os=w.os
  tape:w'.tape=w.tape
  output:w'.output=w.output
  size:w.heap.size<=w'.heap.size
  block:∀ k,k<B->k≠b->k≠c->w'.heap[k]? = w.heap[k]?
theorem Only2.of_below {B:Nat}(b c:Nat){w w':World}(h:Below B w w'):Only2 B b c w w':=⟨h.os,h.tape,h.output,h.size,fun k hk _ _=>h.block k hk⟩
theorem Only2.trans {B b c:Nat} {x y z:World} (h:Only2 B b c x y) (k:Only2 B b c y z):Only2 B b c x z:=
  ⟨k.os.trans h.os,k.tape.trans h.tape,k.output.trans h.output,Nat.le_trans h.size k.size,fun i hi hn hm=>(k.block i hi hn hm).trans (h.block i hi hn hm)⟩
theorem Only2.setL {B b c:Nat} {x w:World} (h:Only2 B b c x w) (o:Nat) (v:Value):Only2 B b c x (w.setCell ⟨b,o,none⟩ v):=
  ⟨h.os,h.tape,h.output,by simpa [World.setCell] using h.size,fun k hk hn hm=>(Below.heap_setCell w _ v k hn).trans (h.block k hk hn hm)⟩
theorem Only2.setR {B b c:Nat} {x w:World} (h:Only2 B b c x w) (o:Nat) (v:Value):Only2 B b c x (w.setCell ⟨c,o,none⟩ v):=
  ⟨h.os,h.tape,h.output,by simpa [World.setCell] using h.size,fun k hk hn hm=>(Below.heap_setCell w _ v k hm).trans (h.block k hk hn hm)⟩
theorem Only2.only {B b c:Nat}{w w':World}(h:Only2 B b c w w'){C:Nat}(h1:C<=B)(h2:C<=c):Only C b w w':=⟨h.os,h.tape,h.output,h.size,fun k hk hn=>h.block k (by omega) hn (by omega)⟩
theorem jDO (t:Nat->Bool)(n:Nat):zS t n<=n:=by
 induction n with
 | zero=>exact Nat.le_refl _
 | succ n ih=>simp only[zS];cases t n <;> simp <;> omega
theorem jHR (b:Nat)(P G:Nat->Int){k:Nat}(hk:k<6)(x:Int):(zV b P G).setIfInBounds (5+k) (.int .i64 x)=zV b P (zF G k x):=by
 (have:k=0∨k=1∨k=2∨k=3∨k=4∨k=5:=by omega);rcases this with rfl | rfl | rfl | rfl | rfl | rfl <;> rfl
theorem UOw.alloc {base:Nat}{w:World}{v:Value}{ps:List (Value×Usr)}(h:UOw base w v ps)(o:Obj):UOw base (w.alloc o) v ps:=h.below (brf.alloc (Nat.le_refl _) o)
theorem FL.ne_of {w:World}{b g:Nat}{F:Flt}{cur:Array Value}{T:TypeId}(h:FL w b F)(hx:w.heap[g]? = some (.cells cur T (0,0)))(hT:T≠77):g≠b:=by
 obtain ⟨M,a,_⟩:=h;rintro rfl;unfold FBk at a;rw[hx] at a;simp only[Option.some.injEq,Obj.cells.injEq] at a;exact hT a.2.1
theorem Bx.ne_of {w:World}{b g:Nat}{cs:Array Value}{T S:TypeId}{cur:Array Value}(h:Bx w b cs T)(hx:w.heap[g]? = some (.cells cur S (0,0)))(hT:S≠T):g≠b:=by
 rintro rfl;unfold Bx at h;rw[hx] at h;simp only[Option.some.injEq,Obj.cells.injEq] at h;exact hT h.2.1
theorem ShB.set {w:World}{g n k:Nat}{ts lv:Nat->Rat}{st:Nat->Int}(h:ShB w g n k ts lv st)(a:Addr)(v:Value)(ha:g≠a.block):ShB (w.setCell a v) g n k ts lv st:=by
 obtain ⟨b,c,d⟩:=h;exact ⟨b,(Below.heap_setCell w a v g ha).trans c,d⟩
theorem Tab.set {w:World}{g:Nat}{cur:Array Value}{T:TypeId}(h:Tab w)(hx:w.heap[g]? = some (.cells cur T (0,0))){z:Value}(h0:cur[0]? = some z)(hz:z≠.int .u64 1)(o:Nat)(v:Value):Tab (w.setCell ⟨g,o,none⟩ v):=by
 unfold Tab Go.Lib.TabIs World.var? at *
 cases hg:Tryz.prog.globalNamed "internal/strconv.uint64pow10" with
 | none=>simp[hg] at h
 | some t=>simp only[hg,Option.bind_some] at h ⊢;(have hne:t≠g:=by rintro rfl;rw[hx] at h;simp only[Option.bind_some,Option.some.injEq] at h;rw[h] at h0;simp[Go.Lib.pow10Tab] at h0;exact hz h0.symm);rw[Below.heap_setCell w ⟨g,o,none⟩ v t hne];exact h
theorem jE8 (sb b:Nat)(F:Flt)(P:Nat->Int)(w:World)(hs:Bx w sb (zV b P (fun _=>0)) 108)(hf:FL w b F)(ht:Tab w)(hk4:F.k<=4)(herr:yF (zj P F.k) (xE F)=0)(hw:∀ u,u<6->0<=F.m.wait u/\F.m.wait u<=1000000)(ho:∀ u,u<6->∀ m,m<8->0<=F.m.on u m/\F.m.on u m<=1000000):Calls Tryz.prog 80 #[.pointer (some ⟨sb,0,none⟩)] w fun e w'=>e = .returned (.tuple #[])/\FL w' b (yA F (xL F P))/\Bx w' sb (zV b P (zG F P)) 108/\Tab w'/\Only2 w.heap.size b sb w w':=by
 have lb:=hf.lt;have ag:=hs.lt;have b8:=hs.cell 0 _ rfl;have bD:=hf.type_ne hs (by decide);have aG:=hid hf;have ai:=hid hs;have bd:=hid ht;have ao:=hid herr;have HW:=hid hw;have HO:=hid ho;have a5:=hid hk4;obtain ⟨M,hF,hE⟩:=hf;have HF:=hid hF;have HE:=hid hE;clear hF hE hs ht herr hw ho;have aC:=hid (brw w);go_enter Tryz.func80,Tryz.ntmps80;(go_upto_region 3 with fail);have a9:=hid (HF.out.range 43 132 (by omega));go_wp2_with (refine wpList_load_mid rfl 75 _ rfl b 43 rfl (yC M 43 132) _ a9.out Tryz.uUsers rfl (by rw[Tryz.zUsers,jBM]) ?_);clear a9 b8
 go_loopg[3,4,22] 6 (fun gg s3 s4 ix wr=>∃ (k:Nat) (nv uv:Value) (ps:List (Value×Usr)),gg=6 - k/\k<=6/\ix = .int .i64 k/\nv=s3/\uv=s4/\Hid (ps.map (·.2)=(xe F.ut k).map (yj F))/\Hid (Li w.heap.size wr nv (yS (xe F.ut k)))/\Hid (UOw w.heap.size wr uv ps)/\Hid (∀ p,p∈ps->∀ g,p.1.ownBlock=some g->Value.ownBlock nv≠some g)/\Hid (Below w.heap.size w wr))
 case atStart=>exact ⟨0,.slice none 0 0,.slice none 0 0,[],rfl,by omega,rfl,rfl,rfl,rfl,Li.nil _ _,UOw.nil _ _,fun p hp=>(by cases hp),aC.out⟩
 case round=>
  clear aC;obtain ⟨k,nv,uv,ps,cz,hk,rfl,rfl,rfl,XE,XN,XU,XS,Z⟩:=hrel;by_cases aS:k<6
  ·(have cB:(k:Int)<6:=by omega);(have cv:(k:Int)<=1000:=by omega);have co:=jCK HE.out aS;(go_upto_region 6 with (refine jAx rfl 74 _ _ rfl _ (zE F k) rfl rfl Tryz.zUser rfl (jCL F k) ?_;simp only[Act.put,List.setIfInBounds_toArray,List.set_cons_succ,List.set_cons_zero]));have O:=hid (jAC wr (zE F k) 74);have s:=hid (XN.out.alloc (.cells (zE F k) 74));have A:=hid (XU.out.alloc (.cells (zE F k) 74));have o:Hid (Below w.heap.size w (wr.alloc (.cells (zE F k) 74))):=Z.out.alloc Z.out.size (.cells (zE F k) 74);have cG:w.heap.size<=wr.heap.size:=Z.out.size;clear XN XU Z;obtain ⟨V2,hV⟩:∃ V2,V2=(wr.alloc (.cells (zE F k) 74)):=⟨_,rfl⟩;rw[<- hV] at O s A o ⊢;clear hV;obtain ⟨ub,bF⟩:∃ ub,ub=wr.heap.size:=⟨_,rfl⟩;have aj:=O;rw[<- bF] at aj ⊢;clear bF co O;have c0:V2.cell? ⟨ub,0,none⟩=some (.bool (F.ut k)):=aj.out.cell 0 _ rfl;have lu:=aj.out.lt
   cases E:F.ut k with
   | false=>(have aF:Hid (ps.map (·.2)=(xe F.ut (k+1)).map (yj F)):=by unfold Hid;rw[jFh E];exact XE.out);(have bM:Hid (Li w.heap.size V2 nv (yS (xe F.ut (k+1)))):=by unfold Hid;rw[jFh E];exact s.out);rw[E] at c0;clear E;go_wp2;go_roundg (6 - (k+1));(case measure=>omega);case rel=>exact ⟨k+1,nv,uv,ps,rfl,by omega,by go_num,rfl,rfl,aF.out,bM.out,A.out,XS.out,o.out⟩
   | true=>
    have J:=hid E;rw[E] at c0;clear E;(go_upto_region 7 with fail);clear c0;(have br:V2.rangeAt ub 0 (zE F k).toList:=fun j v hv=>by have r:=aj.out.cell j v (by simpa using hv);rw[Nat.zero_add];exact r);have bb:=hid br;clear br aj;obtain ⟨du,bw,bC⟩:=Tryz.uUser;have aZ:=hid bw;have ba:=hid bC;clear bw bC;go_wp2_with (refine wpList_load_mid rfl 74 _ rfl ub 0 rfl (zE F k).toList _ bb.out aZ.out ba.out (by rw[Tryz.zUser];rfl) ?_);clear lu bb aZ ba;refine (jJl b F k _ (aG.out.below o.out) a5.out (HW.out k aS) (HO.out k aS)).mono ?_;rintro e7 w7 ⟨d7,rfl,az,ax⟩;obtain ⟨f,d,bv⟩:=az.shape;rw[jAS] at bv;subst bv;(have aJ:Hid (∀ g,Value.ownBlock (.slice f F.k d)=some g->nv.ownBlock≠some g):=fun g hg hn=>by have h1:=(az.lt hg).1;have h2:=(s.out.lt hn).2;omega);have bg:=hid (az.mono o.out.size);have S:=hid (s.out.below ax);have X:=hid (A.out.below ax);have H:Hid (Below (w.heap.size) w w7):=o.out.trans (ax.mono (o.out.size));clear s A o;clear az ax;(go_upto_region 8 with fail);have N:=hid (jAC w7 #[.slice f F.k d,.int .i64 (F.uw k),.int .i64 (yT F k)] 63);have t:=hid (S.out.alloc (.cells #[.slice f F.k d,.int .i64 (F.uw k),.int .i64 (yT F k)] 63));have x:=hid (X.out.alloc (.cells #[.slice f F.k d,.int .i64 (F.uw k),.int .i64 (yT F k)] 63));have z:=hid (bg.out.alloc (.cells #[.slice f F.k d,.int .i64 (F.uw k),.int .i64 (yT F k)] 63));have B:Hid (Below w.heap.size w (w7.alloc (.cells #[.slice f F.k d,.int .i64 (F.uw k),.int .i64 (yT F k)] 63))):=H.out.alloc H.out.size (.cells #[.slice f F.k d,.int .i64 (F.uw k),.int .i64 (yT F k)] 63);have cE:w.heap.size<=w7.heap.size:=H.out.size;clear S X bg H;obtain ⟨V7,hV⟩:∃ V7,V7=(w7.alloc (.cells #[.slice f F.k d,.int .i64 (F.uw k),.int .i64 (yT F k)] 63)):=⟨_,rfl⟩;rw[<- hV] at N t x z B ⊢;clear hV;obtain ⟨ab,bu⟩:∃ ab,ab=w7.heap.size:=⟨_,rfl⟩;have hA:=N;rw[<- bu] at hA ⊢;clear bu N;have bE:w.heap.size<=V7.heap.size:=B.out.size;go_wp2_with (at_builtin;refine jDz _ rfl _ _ rfl w.heap.size _ (yS (xe F.ut k)) ⟨V7.heap.size,0,none⟩ 1 (k:Int) rfl rfl (t.out.alloc _) ((jAC V7 #[.int .i64 (k:Int)] 3).cell 0 _ rfl) (by simp only[List.length_map,jB5];have r:=jDO F.ut k;omega) (by simp only[World.size_alloc];omega) ?_);intro v8 w8 bp al bI;have aW:=Touch.of_append (t.out.alloc (.cells #[.int .i64 (k:Int)] 3)) al;have ap:=hid (aW.bx (jAB hA.out (.cells #[.int .i64 (k:Int)] 3)) (by decide));have bQ:Hid (Li w.heap.size w8 (.slice f F.k d) (zj (F.ud k) F.k)):=(z.out.alloc (.cells #[.int .i64 (k:Int)] 3)).kept al (fun g hg=>aJ.out g hg);have bU:Hid (UOw w.heap.size w8 uv ps):=⟨aW.own (x.out.alloc (.cells #[.int .i64 (k:Int)] 3)).1 (by decide),fun p hp=>((x.out.2 p hp).alloc (.cells #[.int .i64 (k:Int)] 3)).kept al (fun g hg=>XS.out p hp g hg)⟩;(have bR:Hid (Li w.heap.size w8 v8 (yS (xe F.ut (k+1)))):=by unfold Hid yS;rw[jDP J.out,List.map_append];exact bp);have aL:Hid (Below w.heap.size w w8):=(B.out.alloc B.out.size _).trans (jEU al (by simp only[World.size_alloc];omega) (fun g hg=>(t.out.lt hg).1))
    have bT:Hid (∀ p,p∈ps ++ [(Value.slice f F.k d,yj F k)]->∀ g,p.1.ownBlock=some g->v8.ownBlock≠some g):=by
      intro p hp g hg r
      have cp:g<V7.heap.size/\nv.ownBlock≠some g:=by
       rw[List.mem_append] at hp;rcases hp with hp | hp
       ·exact ⟨((x.out.2 p hp).lt hg).2,XS.out p hp g hg⟩
       ·simp at hp;subst hp;exact ⟨(z.out.lt hg).2,aJ.out g hg⟩
      rcases bI with h8 | h8
      ·exact cp.2 (h8.symm.trans r)
      ·rw[h8] at r;simp only[World.size_alloc,Option.some.injEq] at r;omega
    clear bp al bI aW hA t x z B XS aJ bE;have a0:=ap.out.cell 0 _ rfl;have a1:=ap.out.cell 1 _ rfl;have a2:=ap.out.cell 2 _ rfl;have la:=ap.out.lt;(have bN:Hid (ps.length<=6):=by unfold Hid;have r:=congrArg List.length XE.out;simp only[List.length_map,jB5] at r;have h8:=jDO F.ut k;omega);have bE:w.heap.size<=w8.heap.size:=aL.out.size;go_wp2_with (at_builtin;refine jD9 _ rfl _ _ rfl w.heap.size _ ps ⟨w8.heap.size,0,none⟩ 1 (Value.slice f F.k d,yj F k) rfl rfl (bU.out.alloc _) (bQ.out.alloc _) ((jAC w8 #[.slice f F.k d,.int .i64 (F.uw k),.int .i64 (yT F k)] 63).cell 0 _ rfl) ((jAC w8 #[.slice f F.k d,.int .i64 (F.uw k),.int .i64 (yT F k)] 63).cell 1 _ rfl) ((jAC w8 #[.slice f F.k d,.int .i64 (F.uw k),.int .i64 (yT F k)] 63).cell 2 _ rfl) (by have:=bN.out;omega) (by simp only[World.size_alloc];omega) ?_);intro v9 w9 bq bs bo;have bV:=hid bq;have bS:=hid ((bR.out.alloc (.cells #[.slice f F.k d,.int .i64 (F.uw k),.int .i64 (yT F k)] 63)).touch bs (by decide));have bP:Hid (Below w.heap.size w w9):=(aL.out.alloc aL.out.size _).trans bo;(have aF:Hid ((ps ++ [(Value.slice f F.k d,yj F k)]).map (·.2)=(xe F.ut (k+1)).map (yj F)):=by unfold Hid;rw[jDP J.out,List.map_append,List.map_append,XE.out];rfl);clear bq bs bo a0 a1 a2 la;go_wp2;go_roundg (6 - (k+1));(case measure=>omega);case rel=>exact ⟨k+1,v8,v9,ps ++ [(Value.slice f F.k d,yj F k)],rfl,by omega,by go_num,rfl,rfl,aF.out,bS.out,bV.out,bT.out,bP.out⟩
  ·(obtain rfl:k=6:=by omega);clear XS;(go_upto_region 11 with fail);have p0:=(Z.out.cell (p:=⟨sb,1,none⟩) ag).trans (ai.out.cell 1 _ rfl);have p1:=(Z.out.cell (p:=⟨sb,2,none⟩) ag).trans (ai.out.cell 2 _ rfl);have p2:=(Z.out.cell (p:=⟨sb,3,none⟩) ag).trans (ai.out.cell 3 _ rfl);have p3:=(Z.out.cell (p:=⟨sb,4,none⟩) ag).trans (ai.out.cell 4 _ rfl);have ls:=Nat.lt_of_lt_of_le ag Z.out.size;have aY:=Nat.lt_of_lt_of_le lb Z.out.size;(have ck:wr.cell? ⟨b,0,none⟩=some (.int .i64 F.k):=by obtain ⟨M2,h1,h2⟩:=aG.out.below Z.out;rw[h1.cell (by omega),h2.k]);(have SK:Hid (∀ U,Below wr.heap.size wr U->U.cell? ⟨sb,1,none⟩=some (.int .i64 (P 0))/\U.cell? ⟨sb,2,none⟩=some (.int .i64 (P 1))/\U.cell? ⟨sb,3,none⟩=some (.int .i64 (P 2))/\U.cell? ⟨sb,4,none⟩=some (.int .i64 (P 3))/\U.cell? ⟨b,0,none⟩=some (.int .i64 F.k)):=fun U h=>⟨(h.cell (p:=⟨sb,1,none⟩) ls).trans p0,(h.cell (p:=⟨sb,2,none⟩) ls).trans p1,(h.cell (p:=⟨sb,3,none⟩) ls).trans p2,(h.cell (p:=⟨sb,4,none⟩) ls).trans p3,(h.cell (p:=⟨b,0,none⟩) aY).trans ck⟩);(have KC:Hid (∀ U,Below wr.heap.size wr U->Calls Tryz.prog 105 #[.agg (av P),.int .i64 F.k] U (fun e w'=>∃ v,e = .returned v/\Li wr.heap.size w' v (zj P F.k)/\Below wr.heap.size wr w')):=fun U hU=>(jFk P F.k U a5.out).mono (fun e w' ⟨v,h1,h2,h3⟩=>⟨v,h1,h2.mono hU.size,hU.trans (h3.mono hU.size)⟩));have cc:wr.drew.cell? ⟨sb,1,none⟩=some (.int .i64 (P 0)):=((brw wr).drew.cell (p:=⟨sb,1,none⟩) ls).trans p0;have cd:wr.drew.cell? ⟨sb,2,none⟩=some (.int .i64 (P 1)):=((brw wr).drew.cell (p:=⟨sb,2,none⟩) ls).trans p1;have ce:wr.drew.cell? ⟨sb,3,none⟩=some (.int .i64 (P 2)):=((brw wr).drew.cell (p:=⟨sb,3,none⟩) ls).trans p2;have cf:wr.drew.cell? ⟨sb,4,none⟩=some (.int .i64 (P 3)):=((brw wr).drew.cell (p:=⟨sb,4,none⟩) ls).trans p3;have b9:wr.drew.cell? ⟨b,0,none⟩=some (.int .i64 F.k):=((brw wr).drew.cell (p:=⟨b,0,none⟩) aY).trans ck;go_region_held3 (fun w'=>w'.cell? ⟨sb,1,none⟩=some (.int .i64 (P 0))/\w'.cell? ⟨sb,2,none⟩=some (.int .i64 (P 1))/\w'.cell? ⟨sb,3,none⟩=some (.int .i64 (P 2))/\w'.cell? ⟨sb,4,none⟩=some (.int .i64 (P 3))/\w'.cell? ⟨b,0,none⟩=some (.int .i64 F.k)) (first | exact SK.out _ brf.drew | exact SK.out _ D) (first | (go_at_call 105;refine (KC.out _ ?hU).mono ?_;(case hU=>exact brf.drew);rintro ct bJ ⟨cJ,rfl,aD,D⟩));clear SK KC cc cd ce cf b9;have T:=hid (XN.out.below D);have Y:=hid (XU.out.below D);have I:Hid (Below (w.heap.size) w bJ):=Z.out.trans (D.mono (Z.out.size));clear XN XU Z;clear D;clear p0 p1 p2 p3 ls aY ck;obtain ⟨po,pc,rfl,aT⟩:=aD.arr;simp only[jAS] at aT ⊢;have a8:=hid aT;clear aT aD;obtain ⟨uo,uc,rfl,aX⟩:=Y.out.users;(have aU:ps.length=zS F.ut 6:=by have r:=congrArg List.length XE.out;simp only[List.length_map,jB5] at r;exact r);rw[show ps.map (·.2)=xE F from XE.out,aU] at aX;rw[aU];have bf:=hid aX;clear aX aU;clear Y;go_wp2_with fail;refine (jGF po _ pc (zj P F.k) uo _ uc (xE F) _ a8.out bf.out (bd.out.below I.out)).mono ?_;intro cx an hS;unfold SolveEnd at hS;rw[if_pos ao.out] at hS;obtain ⟨g,dd,rfl,aQ⟩:=hS;have ak:=aQ.bel;have W:=hid (T.out.below ak);have C:Hid (Below (w.heap.size) w an):=I.out.trans (ak.mono (I.out.size));clear T I;obtain ⟨n,hn⟩:∃ n,(xE F).length=n:=⟨_,rfl⟩;(have aA:n=zS F.ut 6:=by rw[<- hn];exact jCw F);have a6:=hid aA;(have bA:(xe F.ut 6).length=n:=by rw[jB5,aA]);have aH:=hid bA;(have cw:n<=6:=by rw[aA];exact jDO F.ut 6);have aV:=aQ.sh;rw[hn] at aV ⊢;have aK:=hid aV;clear aQ aV ak hn aA bA a8 bf;generalize stopV dd (yl (zj P F.k) (xE F))=stp at aK;(have a3:Hid (FL an b (yA F (dUp F P 0))):=by unfold Hid;rw[jLP];exact aG.out.below C.out);(have bc:Hid (Bx an sb (zV b P (gUp F P 0)) 108):=by unfold Hid;rw[jLR];exact ai.out.below C.out ag);have be:=hid (bd.out.below C.out);have a7:Hid (Only2 w.heap.size b sb w an):=Only2.of_below b sb C.out;have aI:Hid (Li w.heap.size an nv (yS (xe F.ut 6))):=W.out;clear C W;obtain ⟨no,nc,bB⟩:=aI.out.shape;simp only[List.length_map,aH.out] at bB;subst bB;go_wp2
   go_loopg[58] n (fun gg ix wq=>∃ i:Nat,gg=n - i/\i<=n/\ix = .int .i64 i/\Hid (FL wq b (yA F (dUp F P i)))/\Hid (Bx wq sb (zV b P (gUp F P i)) 108)/\Hid (ShB wq g n n (yl (zj P F.k) (xE F)).ts (yl (zj P F.k) (xE F)).lv stp)/\Hid (Li w.heap.size wq (.slice no n nc) (yS (xe F.ut 6)))/\Hid (Tab wq)/\Hid (Only2 w.heap.size b sb w wq))
   case atStart=>exact ⟨0,rfl,Nat.zero_le _,rfl,a3.out,bc.out,aK.out,aI.out,be.out,a7.out⟩
   case round=>
    clear a3 bc aK aI be a7;obtain ⟨i,cy,hi,rfl,YF,YS,YH,YN,YT,YO⟩:=hrel;by_cases bz:i<n
    ·(have cA:(i:Int)<(n:Int):=by omega);(have cu:(i:Int)<=1000:=by omega);(have aR:i<(xe F.ut 6).length:=by rw[aH.out];exact bz);obtain ⟨u,bG⟩:∃ u,(xe F.ut 6)[i]=u:=⟨_,rfl⟩;obtain ⟨G,E⟩:=jGD 6 (List.getElem_mem aR);have am:=jMb aR;rw[bG] at G E am;(have cD:(u:Int)<6:=by omega);have ah:=hid am;have J:=hid E;clear am E;obtain ⟨s0,s1,s2⟩:=YH.out.cells bz;have lg:=YH.out.lt;(have bL:Hid ((yl (zj P F.k) (xE F)).ts i=zr F P u):=by unfold Hid zr;rw[ah.out]);(go_upto_region 16 with fail);clear s0 s1 s2 lg;rw[bL.out];obtain ⟨L,aw⟩:∃ V,V=wr.alloc (.cells #[.string ⟨(txt (zr F P u)).toArray⟩,.string ⟨(txt ((yl (zj P F.k) (xE F)).lv i)).toArray⟩,.int .i64 (stp i)] 92):=⟨_,rfl⟩;(have R:Below wr.heap.size wr L:=by rw[aw];exact brf.alloc (Nat.le_refl _) _);(have ae:Hid (Bx L wr.heap.size #[.string ⟨(txt (zr F P u)).toArray⟩,.string ⟨(txt ((yl (zj P F.k) (xE F)).lv i)).toArray⟩,.int .i64 (stp i)] 92):=by unfold Hid;rw[aw];exact jAC wr _ _);rw[<- aw];have Q:=hid (YF.out.below R);have bm:=hid (YS.out.keep R);have aM:=hid (YH.out.below R);have aN:=hid (YN.out.below R);have bn:=hid (YT.out.below R);have bl:Hid (Only2 w.heap.size b sb w L):=YO.out.trans (Only2.of_below b sb (R.mono YO.out.size));obtain ⟨cb,ay⟩:∃ c,c=wr.heap.size:=⟨_,rfl⟩;rw[<- ay] at ae ⊢;clear aw R YF YS YH YN YT YO ay;obtain ⟨cI,cH,bH,ad⟩:=aN.out.row;simp only[List.length_map,aH.out,Value.slice.injEq] at bH ad;obtain ⟨rfl,_,rfl⟩:=bH;obtain ⟨ga,oa,aB,cm⟩:=ad.head (by omega);have cg:=ad.cell ga oa aB i (by first | omega | (simp;omega));rw[jHN _ aR,bG] at cg;clear ad;rw[aB];(go_upto_region 17 with fail);rw[<- aB];clear cg cm aB;have x0:=ae.out.cell 0 _ rfl;have lx:=ae.out.lt;obtain ⟨ca,zd⟩:=Q.out.cDue G;have cr:=Q.out.lt;go_region;clear x0 lx ca zd cr;have ay:cb≠b:=Q.out.type_ne ae.out (by decide);(have cl:g≠b:=by obtain ⟨ar,h1,_⟩:=aM.out;exact Q.out.ne_of h1 (by decide));(have bh:Hid (FL (L.setCell ⟨b,43+u*22+16,none⟩ (.string ⟨(txt (zr F P u)).toArray⟩)).drew b (yA F (dUp F P (i+1)))):=by have r:=Q.out.setDue G ⟨(txt (zr F P u)).toArray⟩;rw[show updB (yA F (dUp F P i)).due u ⟨(txt (zr F P u)).toArray⟩=dUp F P (i+1) from by have h8:=jKs (F:=F) (P:=P) G J.out;rw[ah.out] at h8;exact h8] at r;exact r);have af:Hid (Bx (L.setCell ⟨b,43+u*22+16,none⟩ (.string ⟨(txt (zr F P u)).toArray⟩)).drew sb (zV b P (gUp F P i)) 108):=bm.out.other ⟨b,43+u*22+16,none⟩ (.string ⟨(txt (zr F P u)).toArray⟩) (fun e=>bD e.symm);have aq:Hid (Bx (L.setCell ⟨b,43+u*22+16,none⟩ (.string ⟨(txt (zr F P u)).toArray⟩)).drew cb #[.string ⟨(txt (zr F P u)).toArray⟩,.string ⟨(txt ((yl (zj P F.k) (xE F)).lv i)).toArray⟩,.int .i64 (stp i)] 92):=ae.out.other ⟨b,43+u*22+16,none⟩ (.string ⟨(txt (zr F P u)).toArray⟩) (fun e=>ay e.symm);have bi:Hid (ShB (L.setCell ⟨b,43+u*22+16,none⟩ (.string ⟨(txt (zr F P u)).toArray⟩)).drew g n n (yl (zj P F.k) (xE F)).ts (yl (zj P F.k) (xE F)).lv stp):=aM.out.set ⟨b,43+u*22+16,none⟩ (.string ⟨(txt (zr F P u)).toArray⟩) cl;(have bk:Hid (Li w.heap.size (L.setCell ⟨b,43+u*22+16,none⟩ (.string ⟨(txt (zr F P u)).toArray⟩)).drew (.slice no n nc) (yS (xe F.ut 6))):=by have r:=aN.out.only lb ((Only.refl L.heap.size b L).setCell _ (43+u*22+16) (.string ⟨(txt (zr F P u)).toArray⟩)) (Nat.le_refl _);exact r);have aP:Hid (Tab (L.setCell ⟨b,43+u*22+16,none⟩ (.string ⟨(txt (zr F P u)).toArray⟩)).drew):=(bn.out.only Q.out ((Only.refl L.heap.size b L).setCell _ (43+u*22+16) (.string ⟨(txt (zr F P u)).toArray⟩)) (Nat.le_refl _)).drew;(have aO:Hid (Only2 w.heap.size b sb w (L.setCell ⟨b,43+u*22+16,none⟩ (.string ⟨(txt (zr F P u)).toArray⟩)).drew):=by have r:=bl.out.setL (43+u*22+16) (.string ⟨(txt (zr F P u)).toArray⟩);exact ⟨r.os,r.tape,r.output,r.size,r.block⟩);(go_upto_region 18 with fail);obtain ⟨K,bt⟩:∃ V,V=(L.setCell ⟨b,43+u*22+16,none⟩ (.string ⟨(txt (zr F P u)).toArray⟩)).drew:=⟨_,rfl⟩;rw[<- bt] at bh af aq bi bk aP aO ⊢;clear bt Q bm ae aM aN bn bl;have bO:=hid (jHk ao.out G J.out);have a4:=hid (jID ao.out G J.out);have bK:=hid (jMN ao.out G J.out);obtain ⟨q,hq⟩:∃ q:Nat,flZ (zr F P u)=(q:Int):=⟨(flZ (zr F P u)).toNat,by have:=a4.out;omega⟩;(have cq:q<10000:=by have h1:=a4.out;have h2:=bK.out;omega);have HQ:=hid hq;clear hq;have aE:=hid (brw K);have x0:=aq.out.cell 0 _ rfl;have lx:=aq.out.lt;have cj:cb≠sb:=af.out.ne_of aq.out (by decide);(have SK:Hid (∀ U,Below K.heap.size K U->U.cell? ⟨cb,0,none⟩=some (.string ⟨(txt (zr F P u)).toArray⟩)):=fun U h=>(h.cell (p:=⟨cb,0,none⟩) lx).trans x0);have ch:K.drew.cell? ⟨cb,0,none⟩=some (.string ⟨(txt (zr F P u)).toArray⟩):=((brw K).drew.cell (p:=⟨cb,0,none⟩) lx).trans x0;go_region_held3 (fun w'=>w'.cell? ⟨cb,0,none⟩=some (.string ⟨(txt (zr F P u)).toArray⟩)) (first | exact SK.out _ brf.drew | exact SK.out _ l | exact (jBP cj).trans (SK.out _ l)) (first | (go_at_call 106;refine (jHS _ (zr F P u) q _ bO.out HQ.out cq (aP.out.below (brw K).drew)).mono ?_;rintro ci a ⟨rfl,aa⟩;have l:Below K.heap.size K a:=(brw K).drew.trans (aa.mono ((brw K).drew).size);clear aa;have k0:=(af.out.keep l).cell (5+u) _ (jDS _ _ _ G);have z0:=(af.out.keep l).frozen (5+u);have cs:=(af.out.keep l).lt));clear SK ch;have y:Hid (Below (K.heap.size) K a):=aE.out.trans (l.mono (aE.out.size));clear aE;clear k0 z0 cs x0 lx;have bW:=hid (bh.out.below y.out);have au:=hid (af.out.keep y.out);have bj:=hid (bi.out.below y.out);have b0:=hid (bk.out.below y.out);have b6:=hid (aP.out.below y.out);have b2:Hid (Only2 w.heap.size b sb w a):=aO.out.trans (Only2.of_below b sb (y.out.mono aO.out.size));(have cn:g≠sb:=by obtain ⟨ar,h1,_⟩:=bj.out;exact au.out.ne_of h1 (by decide));(have bX:Hid (FL (a.setCell ⟨sb,5+u,none⟩ (.int .i64 (q:Int))) b (yA F (dUp F P (i+1)))):=by obtain ⟨M2,h1,h2⟩:=bW.out;exact ⟨M2,(Below.heap_setCell _ _ _ b (fun e=>bD e.symm)).trans h1,h2⟩);(have b4:Hid (Bx (a.setCell ⟨sb,5+u,none⟩ (.int .i64 (q:Int))) sb (zV b P (gUp F P (i+1))) 108):=by have r:=jAE au.out (5+u) (.int .i64 (q:Int));rw[jHR _ _ _ G,show zF (gUp F P i) u (q:Int)=gUp F P (i+1) from by have h8:=jKw (F:=F) (P:=P) G J.out;rw[ah.out,HQ.out] at h8;exact h8] at r;exact r);have bZ:Hid (ShB (a.setCell ⟨sb,5+u,none⟩ (.int .i64 (q:Int))) g n n (yl (zj P F.k) (xE F)).ts (yl (zj P F.k) (xE F)).lv stp):=bj.out.set ⟨sb,5+u,none⟩ (.int .i64 (q:Int)) cn;have b1:Hid (Li w.heap.size (a.setCell ⟨sb,5+u,none⟩ (.int .i64 (q:Int))) (.slice no n nc) (yS (xe F.ut 6))):=b0.out.set au.out (by decide) (5+u) (.int .i64 (q:Int));have b7:Hid (Tab (a.setCell ⟨sb,5+u,none⟩ (.int .i64 (q:Int)))):=b6.out.set au.out rfl (by simp) (5+u) (.int .i64 (q:Int));have b3:Hid (Only2 w.heap.size b sb w (a.setCell ⟨sb,5+u,none⟩ (.int .i64 (q:Int)))):=b2.out.setR (5+u) (.int .i64 (q:Int));go_wp2;go_roundg (n - (i+1));(case measure=>omega);case rel=>exact ⟨i+1,rfl,by omega,by go_num,bX.out,b4.out,bZ.out,b1.out,b7.out,b3.out⟩
    ·(obtain rfl:i=n:=by omega);(have cC:¬ ((i:Int)<(i:Int)):=by omega);(have bY:Hid (FL wr b (yA F (xL F P))):=by have r:=YF.out;rw[a6.out,jMh] at r;exact r);(have b5:Hid (Bx wr sb (zV b P (zG F P)) 108):=by have r:=YS.out;rw[a6.out,jMO] at r;exact r);go_wp2;go_end0;exact ⟨rfl,bY.out,b5.out,YT.out,YO.out⟩
structure FReady (F:Flt):Prop where
  k4:F.k<=4
  st:FStat F (zB F 8)
  er:yF (zj (zB F 8) F.k) (xE F)=0
  go:FGo (zC F (zB F 8) (zG F (zB F 8))) F.m
  ok:FOk (zC F (zB F 8) (zG F (zB F 8)))
theorem jJ9 {c:FC} (ho:FOk c) {s z:FM} (h:FGo c s) (hi:Iter (zl c) s z):lack c z<=lack c s:=
  (hi.inv (P:=fun x=>FGo c x/\lack c x<=lack c s) (fun a t h1 h2=>by
    refine ⟨h1.1.goal ho h2,?_⟩
    obtain ⟨u,m,l,g⟩:=jBk h1.1.good.inv h2
    have:=g.lack;have:=h1.2;omega) ⟨h,Int.le_refl _⟩).2
theorem jGK {c:FC} {s z:FM} (h:FGo c s) (hi:Iter (yP c) s z):FGo c z/\lack c z<=lack c s:=
  hi.inv (P:=fun x=>FGo c x/\lack c x<=lack c s) (fun a t h1 h2=>by
    refine ⟨h1.1.fill h2,?_⟩
    obtain ⟨u,m,f⟩:=jBe h2
    have:=f.lack;have:=h1.2;omega) ⟨h,Int.le_refl _⟩
theorem jED (sb b:Nat) (F:Flt) (s:FM) (P G:Nat->Int) (w:World) (hs:Bx w sb (zV b P G) 108) (hf:FL w b (zR F s)) (hz:FStat F P) (hg:FGo (zC F P G) s) (ho:FOk (zC F P G)) :
    Calls Tryz.prog 81 #[.pointer (some ⟨sb,0,none⟩)] w fun e w'=>e = .returned (.bool (zl (zC F P G) s).isSome)/\∃ z,FL w' b (zR F z)/\Iter (zl (zC F P G)) s z/\FGo (zC F P G) z/\Only w.heap.size b w w':=jF0 sb b (zR F s) P G w hs hf (hz.with s) hg ho
theorem jGd (sb b:Nat) (F:Flt) (s:FM) (P G:Nat->Int) (w:World) (hs:Bx w sb (zV b P G) 108) (hf:FL w b (zR F s)) (hz:FStat F P) (hg:FGood (zC F P G) s) :
    Calls Tryz.prog 82 #[.pointer (some ⟨sb,0,none⟩)] w fun e w'=>e = .returned (.tuple #[])/\∃ z,FL w' b (zR F z)/\Iter (yP (zC F P G)) s z/\FGood (zC F P G) z/\Only w.heap.size b w w':=jII sb b (zR F s) P G w hs hf (hz.with s) hg
theorem jIR (b:Nat)(F:Flt)(w:World)(hf:FL w b F)(hr:FReady F)(ht:Tab w):Calls Tryz.prog 67 #[.pointer (some ⟨b,0,none⟩)] w fun e w'=>e = .returned (.tuple #[])/\∃ z,FL w' b (zR (yA F (xL F (zB F 8))) z)/\Settles (zC F (zB F 8) (zG F (zB F 8))) F.m z/\FGo (zC F (zB F 8) (zG F (zB F 8))) z/\Tab w'/\Only w.heap.size b w w':=by
 have lb:=hf.lt;have R:=hid hf;have c:=hid hr;have aB:=hid ht;clear hf hr ht;have aA:Hid (FSm F):=(c.out.st.sz c.out.go.good).sm;have HD:Hid (FStat (yA F (xL F (zB F 8))) (zB F 8)):=⟨c.out.st.ms,c.out.st.ud,c.out.st.uw,c.out.st.pool⟩;have f:=hid (brw w);go_enter Tryz.func67,Tryz.ntmps67;go_wp2_with fail;refine (jHh b F _ R.out aA.out).mono ?_;rintro e1 P ⟨rfl,ah⟩;have d:Hid (Below (w.heap.size) w P):=f.out.trans (ah.mono (f.out.size));clear f;clear ah;(go_upto_region 1 with fail);have i:=hid (jAC P (zV b (zB F 8) (fun _=>0)) 108);have a:Hid (Below w.heap.size w (P.alloc (.cells (zV b (zB F 8) (fun _=>0)) 108))):=d.out.alloc d.out.size (.cells (zV b (zB F 8) (fun _=>0)) 108);have ax:w.heap.size<=P.heap.size:=d.out.size;clear d;obtain ⟨V,hV⟩:∃ V,V=(P.alloc (.cells (zV b (zB F 8) (fun _=>0)) 108)):=⟨_,rfl⟩;rw[<- hV] at i a ⊢;clear hV;obtain ⟨B,N⟩:∃ B,B=P.heap.size:=⟨_,rfl⟩;have hS:=i;(have aH:w.heap.size<=B:=by rw[N];exact ax);rw[<- N] at hS ⊢;clear N ax i;go_wp2_with fail;refine (jE8 B b F (zB F 8) _ hS.out (R.out.below a.out) (aB.out.below a.out) c.out.k4 c.out.er (fun u hu=>by have:=c.out.go.good.wait hu;omega) (fun u hu m hm=>by have:=c.out.go.good.on hu hm;omega)).mono ?_;rintro e2 w2 ⟨rfl,ai,au,aw,ar⟩;have j:Hid (FL w2 b (zR (yA F (xL F (zB F 8))) F.m)):=ai;have o:=hid au;have ad:=hid aw;have G:Hid (Only w.heap.size b w w2):=(Only.of_below b a.out).trans (ar.only a.out.size aH);clear ai au aw ar hS a;go_wp2_with fail;refine (jED B b (yA F (xL F (zB F 8))) F.m (zB F 8) (zG F (zB F 8)) _ o.out j.out HD.out c.out.go c.out.ok).mono ?_;rintro e3 w3 ⟨rfl,z3,aj,ap,an,v⟩;have k:=hid aj;have X:=hid ap;have C:=hid an;have p:=hid (o.out.onlyF j.out (by decide) v o.out.lt);have ae:=hid (ad.out.only j.out v (Nat.le_refl _));have H:Hid (Only w.heap.size b w w3):=G.out.trans (v.mono G.out.size);clear aj ap an v j o ad G;go_wp2_with fail;refine (jGd B b (yA F (xL F (zB F 8))) z3 (zB F 8) (zG F (zB F 8)) _ p.out k.out HD.out C.out.good).mono ?_;rintro e4 w4 ⟨rfl,z4,ak,K,_,x⟩;have T:=hid ak;have Y:Hid (Iter (yP (zC F (zB F 8) (zG F (zB F 8)))) z3 z4):=K;have U:=hid (jGK C.out K);have ab:=hid (p.out.onlyF k.out (by decide) x p.out.lt);have af:=hid (ae.out.only k.out x (Nat.le_refl _));have aa:Hid (Only w.heap.size b w w4):=H.out.trans (x.mono H.out.size);clear ak K x k p ae H;(have Q:Hid (∀ z,Outer (zC F (zB F 8) (zG F (zB F 8))) z4 z->Settles (zC F (zB F 8) (zG F (zB F 8))) F.m z):=fun z h=>⟨z3,z4,X.out,Y.out,h⟩);go_wp2
 go_loopg[] (lack (zC F (zB F 8) (zG F (zB F 8))) z4).toNat (fun gg wr=>∃ s:FM,gg=(lack (zC F (zB F 8) (zG F (zB F 8))) s).toNat/\Hid (∀ z,Outer (zC F (zB F 8) (zG F (zB F 8))) s z->Settles (zC F (zB F 8) (zG F (zB F 8))) F.m z)/\Hid (FGo (zC F (zB F 8) (zG F (zB F 8))) s)/\Hid (FL wr b (zR (yA F (xL F (zB F 8))) s))/\Hid (Bx wr B (zV b (zB F 8) (zG F (zB F 8))) 108)/\Hid (Tab wr)/\Hid (Only w.heap.size b w wr))
 case atStart=>exact ⟨z4,rfl,Q.out,U.out.1,T.out,ab.out,af.out,aa.out⟩
 case round=>
  clear Q U T ab af aa X Y C;obtain ⟨s,aI,YB,D,l,q,ag,I⟩:=hrel;go_wp2_with fail;refine (jED B b (yA F (xL F (zB F 8))) s (zB F 8) (zG F (zB F 8)) _ q.out l.out HD.out D.out c.out.ok).mono ?_;rintro e6 w6 ⟨rfl,z6,al,aq,ao,y⟩;have g:=hid al;have Z:=hid aq;have E:=hid ao;have r:=hid (q.out.onlyF l.out (by decide) y q.out.lt);have J:=hid (ag.out.only l.out y (Nat.le_refl _));have n:Hid (Only w.heap.size b w w6):=I.out.trans (y.mono I.out.size);clear al aq ao y l q ag I
  cases hp:zl (zC (yA F (xL F (zB F 8))) (zB F 8) (zG F (zB F 8))) s with
  | none=>have M:zl (zC F (zB F 8) (zG F (zB F 8))) s=none:=hp;obtain rfl:s=z6:=(Iter.done M).det Z.out;have HO:=hid (YB.out s (.done M));clear hp M;simp only[Option.isSome_none];go_wp2;go_end0;exact ⟨rfl,s,g.out,HO.out,E.out,J.out,n.out⟩
  | some t=>have HP:Hid (zl (zC F (zB F 8) (zG F (zB F 8))) s=some t):=hp;clear hp;simp only[Option.isSome_some];have S:Hid (Iter (zl (zC F (zB F 8) (zG F (zB F 8)))) t z6):=Iter.part Z.out HP.out;go_wp2_with fail;refine (jGd B b (yA F (xL F (zB F 8))) z6 (zB F 8) (zG F (zB F 8)) _ r.out g.out HD.out E.out.good).mono ?_;rintro e7 w7 ⟨rfl,O,am,L,_,A⟩;have aC:=hid am;have aD:Hid (Iter (yP (zC F (zB F 8) (zG F (zB F 8)))) z6 O):=L;have W:=hid (jGK E.out L);have aF:=hid (r.out.onlyF g.out (by decide) A r.out.lt);have aG:=hid (J.out.only g.out A (Nat.le_refl _));have aE:Hid (Only w.heap.size b w w7):=n.out.trans (A.mono n.out.size);clear am L A g r J n;(have ay:Hid (∀ z,Outer (zC F (zB F 8) (zG F (zB F 8))) O z->Settles (zC F (zB F 8) (zG F (zB F 8))) F.m z):=fun z h=>YB.out z (.more HP.out S.out aD.out h));(have az:Hid ((lack (zC F (zB F 8) (zG F (zB F 8))) O).toNat<gk):=by unfold Hid;obtain ⟨u9,m9,l9,g9⟩:=jBk D.out.good.inv HP.out;have h1:=g9.lack;have h2:=jJ9 c.out.ok (D.out.goal c.out.ok HP.out) S.out;have h3:lack (zC F (zB F 8) (zG F (zB F 8))) O<=lack (zC F (zB F 8) (zG F (zB F 8))) z6:=W.out.2;have h4:=jDQ (zC F (zB F 8) (zG F (zB F 8))) O;omega);go_wp2;go_roundg (lack (zC F (zB F 8) (zG F (zB F 8))) O).toNat;(case measure=>exact az.out);case rel=>exact ⟨O,rfl,ay.out,W.out.1,aC.out,aF.out,aG.out,aE.out⟩
structure FWf (R:Int)(F:Flt):Prop where
  k1:1<=F.k
  k4:F.k<=4
  mg:F.mg<=8
  ug:F.ug<=6
  mt:∀ i,i<8->F.mt i=true->i<F.mg
  ut:∀ u,u<6->F.ut u=true->u<F.ug
  ms:∀ i,i<8->∀ r,r<4->0<=F.ms i r/\F.ms i r<=1000
  msz:∀ i,i<8->F.mt i=false->∀ r,r<4->F.ms i r=0
  msk:∀ i,i<8->∀ r,r<4->F.k<=r->F.ms i r=0
  ud:∀ u,u<6->∀ r,r<4->0<=F.ud u r/\F.ud u r<=10000
  udk:∀ u,u<6->∀ r,r<4->F.k<=r->F.ud u r=0
  want:∀ u,u<6->F.ut u=true->∃ r,r<F.k/\0<F.ud u r
  uw:∀ u,u<6->0<=F.uw u/\F.uw u<=100
  uw1:∀ u,u<6->F.ut u=true->1<=F.uw u
  uc:∀ u,u<6->0<=F.uc u/\F.uc u<=1000
  on:∀ u,u<6->∀ m,m<8->0<=F.m.on u m
  wait:∀ u,u<6->0<=F.m.wait u
  none:∀ u,u<6->F.ut u=false->F.m.wait u+runs F.m u=0
  gone:∀ m,m<8->F.mt m=false->∀ u,u<6->F.m.on u m=0
  room:∀ m,m<8->∀ r,r<4->Por.sumI (fun u=>F.ud u r*F.m.on u m) 6<=F.ms m r
  tot:∀ u,u<6->F.m.wait u+runs F.m u<=40
  rev:∀ u,u<6->0<=F.m.rev u/\F.m.rev u<=R
  ck:0<=F.ck/\F.ck<=1000000
  used:∀ u,u<6->∀ r,r<4->0<=F.used u r/\F.used u r<=400000*F.ck
  idle:∀ r,r<4->0<=F.idle r/\F.idle r<=8000*F.ck
theorem FWf.runs0 {R:Int}{F:Flt}(h:FWf R F){u:Nat}(hu:u<6):0<=runs F.m u:=jAK (fun i hi=>h.on u hu i hi)
theorem FWf.on40 {R:Int}{F:Flt}(h:FWf R F){u m:Nat}(hu:u<6)(hm:m<8):0<=F.m.on u m/\F.m.on u m<=40:=by
 have b:=h.on u hu m hm;have c:=jBu (f:=F.m.on u) (n:=8) (fun j hj=>h.on u hu j hj) hm;have a:=h.tot u hu;have d:=h.wait u hu;unfold runs at a;omega
theorem FWf.wait40 {R:Int}{F:Flt}(h:FWf R F){u:Nat}(hu:u<6):0<=F.m.wait u/\F.m.wait u<=40:=by
 have a:=h.wait u hu;have b:=h.runs0 hu;have c:=h.tot u hu;omega
theorem FWf.sm {R:Int}{F:Flt}(h:FWf R F):FSm F:=⟨h.ms,h.ud,fun u hu m hm=>h.on40 hu hm⟩
theorem FWf.stat {R:Int}{F:Flt}(h:FWf R F):FStat F (zB F 8):=⟨h.ms,h.ud,h.uw,fun r hr=>jDg h.sm (Nat.le_refl 8) hr⟩
theorem jJ3 {a:Nat->Int}{k:Nat}{p:Int->Bool}(h:∀ r,r<k->p (a r)=true):(zj a k).all p=true:=by
 rw[List.all_eq_true];intro x b;unfold zj at b;rw[List.mem_map] at b;obtain ⟨r,c,rfl⟩:=b;exact h r (List.mem_range.1 c)
theorem jJV {R:Int}{F:Flt}(h:FWf R F){u:Nat}(hu:u<6):0<=yT F u/\yT F u<=40/\yT F u<=F.m.wait u+runs F.m u/\yT F u<=F.uc u:=by
 have a:=h.uc u hu;have b:=h.wait u hu;have c:=h.runs0 hu;have d:=h.tot u hu;unfold yT;split <;> omega
theorem FWf.err {R:Int}{F:Flt}(h:FWf R F):yF (zj (zB F 8) F.k) (xE F)=0:=by
 (have f:poolB (zj (zB F 8) F.k)=true:=by unfold poolB xC;rw[jAS,decide_eq_true ⟨h.k1,h.k4⟩,Bool.true_and];refine jJ3 (fun r c=>?_);have:=h.stat.pool r (by have:=h.k4;omega);unfold yE;exact decide_eq_true (by omega));have j:(xE F).length<=6:=by rw[jCw];exact jDO _ _
 have g:(xE F).all (yN (zj (zB F 8) F.k).length)=true:=by
  rw[jAS,List.all_eq_true];intro x e;unfold xE at e;rw[List.mem_map] at e;obtain ⟨u,i,rfl⟩:=e;obtain ⟨a,b⟩:=jGD 6 i;have l:=jJV h a;have m:=h.uw u a;have n:=h.uw1 u a b;obtain ⟨r,c,d⟩:=h.want u a b;unfold yN yj;simp only[jAS,decide_true,Bool.true_and,Bool.and_eq_true,decide_eq_true_eq];refine ⟨⟨by omega,jJ3 (fun r c=>?_)⟩,?_⟩
  ·have:=h.ud u a r (by have:=h.k4;omega);unfold yE;exact decide_eq_true (by omega)
  ·unfold xN;rw[List.any_eq_true];exact ⟨F.ud u r,List.mem_of_getElem? (jCe (F.ud u) c),decide_eq_true d⟩
 unfold yF;rw[f,g,if_neg (by simp),if_neg (by omega),if_neg (by simp)]
theorem FWf.goal {R:Int}{F:Flt}(h:FWf R F){u:Nat}(hu:u<6):0<=zG F (zB F 8) u/\zG F (zB F 8) u<=40/\zG F (zB F 8) u<=F.m.wait u+runs F.m u:=by
 unfold zG;by_cases a:u<6/\F.ut u=true
 ·rw[if_pos a];have b:=jID h.err hu a.2;have c:=jJV h hu;omega
 ·rw[if_neg a];have b:=h.wait u hu;have c:=h.runs0 hu;omega
noncomputable abbrev cF (F:Flt):FC:=zC F (zB F 8) (zG F (zB F 8))
theorem FWf.finv {R:Int} {F:Flt} (h:FWf R F):FInv (cF F) F.m:=
  ⟨h.on,h.wait,fun m hm r hr=>by
    show 0<=F.ms m r - Por.sumI (fun u=>F.ud u r*F.m.on u m) 6
    have:=h.room m hm r hr;omega,fun u hu=>(h.goal hu).2.2,h.gone⟩
theorem FWf.fok {R:Int}{F:Flt}(h:FWf R F):FOk (cF F):=⟨fun u hu r hr=>(h.ud u hu r hr).1,fun u hu=>(h.goal hu).1⟩
theorem FWf.lack {R:Int}{F:Flt}(h:FWf R F):lack (cF F) F.m<=240:=by
  have := jBL (f := fun u => max 0 ((cF F).goal u - runs F.m u)) (n := 6) (B := 40) (fun u hu => by
    show max 0 (zG F (zB F 8) u - runs F.m u) <= 40
    have a := h.goal hu
    have b := h.runs0 hu
    omega)
  exact this
theorem FWf.ready {R:Int}{F:Flt}(h:FWf R F)(hR:R<=999999999999990000):FReady F:=by
 refine ⟨h.k4,h.stat,h.err,⟨⟨h.finv,h.tot,fun u hu=>(h.rev u hu).1⟩,fun u hu=>?_⟩,h.fok⟩;have a:=h.lack;have b:=(h.rev u hu).2;change F.m.rev u+40*Por.lack (cF F) F.m<=_;omega
theorem FWf.settled {R:Int}{F:Flt}(h:FWf R F){z:FM}(hs:Settles (cF F) F.m z)(D:Nat->ByteArray):FWf (R+9600) (zR (yA F D) z):=by
 have a:=hs.finv h.fok h.finv;have b:=hs.tasks h.fok h.finv;(have c:∀ u,u<6->z.rev u<=R+9600:=fun u hu=>by have f:=hs.revs h.fok h.finv (T:=40) h.tot u hu;have g:=h.lack;have i:=(h.rev u hu).2;omega);have d:=hs.gentle h.fok h.finv;refine ⟨h.k1,h.k4,h.mg,h.ug,h.mt,h.ut,h.ms,h.msz,h.msk,h.ud,h.udk,h.want,h.uw,h.uw1,h.uc,a.on,a.wait,fun u hu ht=>?_,a.gone,fun m hm r hr=>?_,fun u hu=>?_,fun u hu=>⟨?_,c u hu⟩,h.ck,h.used,h.idle⟩
 ·show z.wait u+runs z u=0;rw[b u];exact h.none u hu ht
 ·have e:=a.room m hm r hr;change 0<=F.ms m r - Por.sumI (fun u=>F.ud u r*z.on u m) 6 at e;show Por.sumI (fun u=>F.ud u r*z.on u m) 6<=F.ms m r;omega
 ·show z.wait u+runs z u<=40;rw[b u];exact h.tot u hu
 ·have:=d.rev u hu;have:=(h.rev u hu).1;show 0<=z.rev u;omega
theorem FWf.mono {R S:Int} {F:Flt} (h:FWf R F) (hR:R<=S):FWf S F:=
  ⟨h.k1,h.k4,h.mg,h.ug,h.mt,h.ut,h.ms,h.msz,h.msk,h.ud,h.udk,h.want,h.uw,h.uw1,h.uc,h.on,h.wait,h.none,h.gone,h.room,h.tot,fun u hu=>⟨(h.rev u hu).1,by have:=(h.rev u hu).2;omega⟩,h.ck,h.used,h.idle⟩
def Settled (F G:Flt):Prop:=∃ z,G=zR (yA F (xL F (zB F 8))) z/\Settles (cF F) F.m z
theorem jBf (b:Nat) (R:Int) (F:Flt) (w:World) (hf:FL w b F) (hr:FWf R F) (hR:R<=999999999999990000) (ht:Tab w) :
    Calls Tryz.prog 67 #[.pointer (some ⟨b,0,none⟩)] w fun e w'=>e = .returned (.tuple #[])/\∃ G,FL w' b G/\Settled F G/\FWf (R+9600) G/\Tab w'/\Only w.heap.size b w w':=
  (jIR b F w hf (hr.ready hR) ht).mono (fun e w' ⟨h1,z,h2,h3,h4,h5,h6⟩=>⟨h1,_,h2,⟨z,rfl,h3⟩,hr.settled h3 _,h5,h6⟩)
end Go.Proofs.YtigokanoflkinabGreatDoor
