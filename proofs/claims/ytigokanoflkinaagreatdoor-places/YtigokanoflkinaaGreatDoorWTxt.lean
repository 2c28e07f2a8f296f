/- WParse, WItoa, WText, WTextB, joined. -/
import Derived.Test.YtigokanoflkinaaGreatDoorZA
import Derived.Test.YtigokanoflkinaaGreatDoorShelf
set_option maxHeartbeats 1000000
set_option maxRecDepth 10000
namespace Go.Proofs.YtigokanoflkinaaGreatDoor
set_option linter.unusedSimpArgs false
set_option linter.unusedVariables false
open Go.RowKit Por Go.Proofs.Tryz
open Value renaming int->kW,slice->kX,bool->kZ,agg->lA,tuple->lB,string->lC
open IntKind renaming i64->lD
open Obj renaming cells->lE
open Ending renaming returned->lF
open World renaming setCell->lG,cell?->lH
open Option renaming none->lI,some->lJ
open Bool renaming true->lK,false->lL
open Go renaming World->lM,Value->lN
theorem ox (s:ByteArray)(k:Nat)(h:k<s.size):s.data.toList.take (k+1)=s.data.toList.take k++[s[k]]:=by
 rw[iO (by simpa using h)];rfl
variable{s:ByteArray}{w:lM}
theorem CS (hs:s.size<=100000):Calls prog 174 #[lC s] w fun e w'=>e=lF (kZ (zY s.data.toList))/\w'=w:=by
 by_cases p:s.size=0
 ·(have E:Hid (zY s.data.toList=lL):=by have:s.data.toList=[]:=iY (by simpa using p);show _=_;rw[this];rfl);(have q:((s.size:Int) == 0)=lK:=by simpa using p);go_enter func174,ntmps174;go_wp2;go_ret;exact⟨by rw[E.out];rfl,rfl⟩
 ·(have q:((s.size:Int) == 0)=lL:=by simpa using p);go_enter func174,ntmps174;go_wp2
  go_loop[3] (fun i=>∃k:Nat,k<=s.size/\i=kW lD k/\Hid ((s.data.toList.take k).all yf=lK)) (fun i=>s.size-(intOf i).toNat)
  case atStart=>exact⟨0,ep _,rfl,rfl⟩
  case round=>
   obtain⟨k,C,rfl,t⟩:=hrel;by_cases j:k<s.size
   ·have m:=ox s k j;have v:=hid m;clear m
    have a:¬ (48<=s[k].toNat/\s[k].toNat<=57)->Hid (zY s.data.toList=lL):=by
     intro z;show _=_
     cases B:zY s.data.toList with
     |false=>rfl
     | true=>
      exfalso;have b:=((mE _).1 B).2.1
      have o:=ie.1 b s[k] (by
       have:=ij (l:=s.data.toList) (n:=k) (by simpa using j)
       exact this)
      exact z ((l5 _).1 o)
    rcases Nat.lt_or_ge s[k].toNat 48 with d|d
    ·have E:=a (by omega);(have y:decide ((s[k].toNat:Int)<48)=lK:=by simp;omega);clear a;go_wp2;go_ret;exact⟨by rw[E.out];rfl,rfl⟩
    ·(have y:decide ((s[k].toNat:Int)<48)=lL:=by simp;omega);rcases Nat.lt_or_ge 57 s[k].toNat with g|g
     ·have E:=a (by omega);(have hB:decide (57<(s[k].toNat:Int))=lK:=by simp;omega);clear a;go_wp2;go_ret;exact⟨by rw[E.out];rfl,rfl⟩
     ·(have hB:decide (57<(s[k].toNat:Int))=lL:=by simp;omega);(have u:Hid ((s.data.toList.take (k+1)).all yf=lK):=by show _=_;rw[v.out,List.all_append,t.out];simp[yf,d,g]);clear a;go_wp2;exact⟨⟨k+1,by omega,by go_num,u.out⟩,by simp[intOf];omega⟩
   ·obtain rfl:k=s.size:=by omega
    have f:Hid (s.data.toList.all yf=lK):=by
     have:=t.out
     rwa[ew (by simp)]at this
    (have A:0<s.size:=by omega);have r:s.data.toList.head?=lJ s[0]:=by rw[List.head?_eq_getElem?,en (by simpa using A)];rfl
    have E:Hid (zY s.data.toList=((s.size:Int) == 1||(s[0].toNat:Int) != 48)):=by
     show _=_;rw[jz,mE,r];(have o:s.data.toList.length=s.size:=by simp);have b:s.data.toList≠[]:=by intro d;rw[d,List.length_nil]at o;omega
     have x:(lJ s[0]≠lJ (48:UInt8))↔(s[0].toNat:Int)≠48:=by
      constructor
      ·intro h d;apply h;congr 1;apply UInt8.toNat_inj.1;have e:(48:UInt8).toNat=48:=rfl;omega
      ·intro h d;apply h;have:=iE d;rw[this];rfl
     rw[o,x];simp only[f.out,b,ne_eq,not_false_eq_true,true_and,Bool.or_eq_true,jo,bne_iff_ne];omega
    by_cases b:(s.size:Int)=1
    ·(have c:((s.size:Int) == 1)=lK:=by simpa using b);clear b r;go_wp2;go_ret;exact⟨by rw[E.out,c];rfl,rfl⟩
    ·(have c:((s.size:Int) == 1)=lL:=by simpa using b);clear b r;go_wp2;go_ret;exact⟨by rw[E.out,c];rfl,rfl⟩
theorem vI (hs:s.size<=4)(hd:s.data.toList.all yf=lK):Calls prog 175 #[lC s] w fun e w'=>e=lF (kW lD (dv s.data.toList:Nat))/\w'=w:=by
 go_enter func175,ntmps175;go_wp2
 go_loop[3,4] (fun v i=>∃k:Nat,k<=s.size/\i=kW lD k/\v=kW lD (dv (s.data.toList.take k):Nat)) (fun _ i=>s.size-(intOf i).toNat)
 case atStart=>exact⟨0,ep _,rfl,rfl⟩
 case round=>
  obtain⟨k,p,rfl,rfl⟩:=hrel;by_cases a:k<s.size
  ·have b:=ox s k a;(have g:48<=s[k].toNat/\s[k].toNat<=57:=by have:=ie.1 hd s[k] (ij (l:=s.data.toList) (n:=k) (by simpa using a));exact(l5 _).1 this);obtain⟨h,j⟩:=g
   have q:dv (s.data.toList.take k)<10000:=by
    have o:=qu (s.data.toList.take k) (by
     rw[ie];intro x m;exact ie.1 hd x (List.mem_of_mem_take m))
    (have f:(s.data.toList.take k).length<=4:=by rw[im];simp;omega);have:(10:Nat)^(s.data.toList.take k).length<=10^4:=ip (by omega) f;omega
   have E:=px (s.data.toList.take k) s[k];go_wp2;exact⟨⟨k+1,by omega,by go_num,by rw[b,E];congr 1;omega⟩,by simp[intOf];omega⟩
  ·go_wp2;go_ret;exact⟨by rw[ew (by simp;omega)];rfl,rfl⟩
variable{l:List UInt8}
theorem D7 (h:zY l=lK):1<=l.length:=by
 have:=((mE _).1 h).1
 cases l with
 |nil=>exact absurd rfl this
 |cons=>simp
theorem sk (hs:s.size<=100000)(h:zY s.data.toList=lK):Calls prog 148 #[lC s] w fun e w'=>∃v,e=lF (lB #[v,kZ lK])/\Num w' v (dv s.data.toList)/\Below w.heap.size w w':=by
 have Q:=i1 w #[kX lI 0 0] 88;have B:=(eB _ w).alloc lR (lE #[kX lI 0 0] 88);have hp:=D7 h;(have O:s.data.toList.length=s.size:=by simp);rw[O]at hp;have A:=((mE _).1 h).2.1;go_enter func148,ntmps148
 go_wp2_with (first
  |(go_at_call 174;refine(CS hs).mono ?_;rintro e w' ⟨rfl,rfl⟩)
  |(at_make;refine mm _ rfl _ _ rfl _ _ (s.size/4+1) rfl rfl (by omega) (by omega) (by omega) ?_))
 intro P F o ac;have T:=Q.iP o (by omega);have J:=B.trans (o.mono (by omega));obtain⟨G,R⟩:∃G,G=w.heap.size+1:=⟨_,rfl⟩;(have ab:w.heap.size+1<=G:=by omega);rw[<-R]at F ⊢;clear o R B Q h;go_wp2
 go_loopw [5,6] (fun ve vi wr=>∃(k e:Nat) (a:List Int),e<=s.size /\ 4*k+e<=s.size+3 /\ (e=0\/4*k+e=s.size) /\ ve=kW lD e /\ vi=kW lD k /\ a.length=s.size/4+1 /\ yd a /\
  ((dv s.data.toList:Int)=dv (s.data.toList.take e)*10000^k+val (a.take k)) /\ (∀t,k<=t -> lm a t=0) /\ Blk wr G a /\ Below G P wr) (fun ve _ _=>(intOf ve).toNat)
 case atStart=>refine⟨0,s.size,_,lR,by omega,.inr (by omega),rfl,rfl,by simp,mv _,?_,fun t _=>ot _ t,F,eB _ _⟩;show _=_;rw[ew (by omega)];simp[val]
 case round=>
  obtain⟨k,e,a,he,Y,S,rfl,rfl,u,g,n,d,b,M⟩:=hrel;by_cases U:e=0
  ·subst U;(have D:(val a).toNat=dv s.data.toList:=by have I:=n;rw[List.take_zero,rZ,vf a k (fun i hi _=>d i hi)]at I;show _=_;simp at I;omega);have m:=Blk.row0 b (s.size/4+1) (s.size/4+1) u.symm lR (by unfold maxLen;omega);have N:=b.lt;go_wp2_with fail;refine(pt m g (by omega)).mono ?_;rintro e w4 ⟨j,X,E,rfl,p⟩;have C:=M.trans (p.mono (by omega));have Z:=T.iP C (by omega);obtain⟨_,z1,z2⟩:=Z.w1 rfl;have L:=oL m X E D p;clear p E;go_wp2;refine eG (v:=lB #[lA #[kX (lJ ⟨G,0,lI⟩) j (s.size/4+1)],kZ lK]) (by simp[results,results148,go_sem,z1]) rfl ⟨_,rfl,⟨_,_,_,rfl,L.jx _ _ _ Z (by decide)⟩,?_⟩;exact(J.trans (C.mono (by omega))).setCell lR _
  ·have N:=b.lt;(have H:k<a.length:=by omega);have g1:=b.cell k H;have g2:=b.frozen k;(have l:(s.extract (e-4) e).data.toList=(s.data.toList.take e).drop (e-4):=by rw[Go.Lib.extract_data,List.drop_take]);(have f:(s.extract (e-4) e).data.toList.all yf=lK:=by show _=_;rw[l,ie];intro x hx;exact ie.1 A x (List.mem_of_mem_take (List.mem_of_mem_drop hx)));(have q:(s.extract (e-4) e).size<=4:=by(have:(s.extract (e-4) e).data.toList.length=(s.extract (e-4) e).size:=by rw[Array.length_toList];rfl);rw[l,iC,im]at this;omega);have c:=EQ s.data.toList e k a H (by omega) n;(have r:dv ((s.data.toList.take e).drop (e-4))<10000:=by have I:=qu _ f;rw[l]at I;(have V:((s.data.toList.take e).drop (e-4)).length<=4:=by rw[iC,im];omega);have:(10:Nat)^((s.data.toList.take e).drop (e-4)).length<=10^4:=ip (by omega) V;show _<_;omega);(have aa:(0:Int)<(e:Int):=by omega);by_cases h4:e<4
   ·(have W:(e:Int)-4<0:=by omega);(have z:e-4=0:=by omega);rw[z]at c f q r l;clear z;go_wp2_with fail;refine(vI q f).mono ?_;rintro _ _ ⟨rfl,rfl⟩;rw[l];go_wp2
    go_roundw
    (case rel=>exact⟨k+1,0,_,by omega,by omega,.inl rfl,rfl,by go_num,by simpa using u,lO g k _ (by omega) (by have:=r;omega),c,fun t ht=>(mL a k t _ (by omega)).trans (d t (by omega)),b.set k _,M.setCell lR _⟩);case measure=>simp[intOf];omega
   ·(have W:¬ (e:Int)-4<0:=by omega);go_wp2_with fail;refine(vI q f).mono ?_;rintro _ _ ⟨rfl,rfl⟩;rw[l];go_wp2
    go_roundw
    (case rel=>exact⟨k+1,e-4,_,by omega,by omega,by omega,by go_num,by go_num,by simpa using u,lO g k _ (by omega) (by have:=r;omega),c,fun t ht=>(mL a k t _ (by omega)).trans (d t (by omega)),b.set k _,M.setCell lR _⟩);case measure=>simp[intOf];omega
def Tab (w:lM):Prop:=Go.Lib.TabIs prog w "internal/strconv.uint64pow10" .u64 Go.Lib.pow10Tab
variable{w':lM}
theorem Tab.iP (h:Tab w)(hb:Below w.heap.size w w'):Tab w':=by
 unfold Tab Go.Lib.TabIs World.var? at *
 cases hg:prog.globalNamed "internal/strconv.uint64pow10" with
 |none=>simp[hg]at h
 | some g=>
  simp only[hg,jO]at h ⊢
  have hlt:g<w.heap.size:=by
   rcases Nat.lt_or_ge g w.heap.size with h'|h'
   ·exact h'
   ·rw[Array.getElem?_eq_none h']at h;simp at h
  rw[hb.block g hlt];exact h
theorem DC (w:lM) (k:Nat) (os:Array Obj):Below w.heap.size w (Go.Sort.grow (w.drewN k) os):=
  ⟨rfl,rfl,rfl,by show w.heap.size<=(w.heap++os).size;simp,fun i hi=>by show(w.heap++os)[i]?=_;rw[Array.getElem?_append_left hi]⟩
theorem Bb {n:Int}(h0:-9223372036854775808<=n)(h1:n<=9223372036854775807)(w:lM)(ht:Tab w):Calls prog 95 #[kW lD n] w fun e w'=>e=lF (lC ⟨(Go.Lib.itoa n).toArray⟩)/\Below w.heap.size w w':=by
 refine(Any.strconv_Itoa Tryz.laysM171 n h0 h1 w ht).mono ?_;rintro e w' ⟨rfl,k,a,rfl⟩;exact⟨rfl,DC w k a⟩
def Byt (base:Nat)(w:lM)(v:lN)(l:List UInt8):Prop:=
  ∃g cap,v=kX (lJ ⟨g,0,lI⟩) l.length cap/\base<=g/\g<w.heap.size/\l.length<=cap/\cap<=maxLen/\
    (∀j,j<cap->(lH w ⟨g,j,lI⟩).isSome=lK/\w.frozen? ⟨g,j,lI⟩=lL)/\(∀j (hj:j<l.length),lH w ⟨g,j,lI⟩=lJ (kW .u8 (l[j].toNat:Int)))
variable{base:Nat}{v:lN}
theorem Byt.iP (h:Byt base w v l)(hb:Below w.heap.size w w'):Byt base w' v l:=by
 obtain⟨g,b,rfl,c,a,d,e,f,i⟩:=h;refine⟨g,b,rfl,c,jl hb a,d,e,fun j hj=>?_,fun j hj=>?_⟩
 ·rw[hb.cell (p:=⟨g,j,lI⟩) a,hb.frozen (p:=⟨g,j,lI⟩) a];exact f j hj
 ·rw[hb.cell (p:=⟨g,j,lI⟩) a];exact i j hj
theorem Tryz.infoByte:(prog.info? 5).map (fun i=>(i.zero,i.size,i.bytes))=lJ (lJ (kW .u8 0),1,1):=by kernel_rfl
variable{n:Nat}
theorem wE (h:w.ownsRow base 5 1 v n (l.map fun c=>Value.int .u8 c.toNat))(hn:n=l.length)(hp:0<n):Byt base w v l:=by
 rcases h.2 with⟨_,p⟩|⟨g,b,d,rfl,o,a,i,k,m,f⟩
 ·omega
 ·subst hn;rw[ic]at m f;refine⟨g,b,rfl,o,(ek.1 a).1,i,k,fun j hj=>⟨?_,jg w g j _ _ a⟩,fun j hj=>?_⟩
  ·rw[hH w g j _ _ _ a,iN (by omega)];rfl
  ·rw[hH w g j _ _ _ a];(have e:(d.toList.take l.length)[j]?=(l.map fun c=>Value.int .u8 c.toNat)[j]?:=by rw[f]);rw[eH,ed hj,eI]at e;rw[e];simp[hj]
theorem qy (w:lM){ops:Array Oper}{rest:List Oper}{o:Oper}{a:Act}{Q:Exit->Act->lM->Prop}(hgd:o.guard=lI)(s x:Operand)(hop:o.op=Op.call {callee:=Callee.builtin Builtin.append,args:=#[s,x],argTypes:=#[152,152]})(base:Nat)(v:lN)(l:List UInt8)(c:UInt8)(ad:Addr)(hs:a.eval s=v)(hx:a.eval x=kX (lJ ad) 1 1)(hb:Byt base w v l)(hc:w.cell? ad=lJ (kW .u8 c.toNat))(hl:l.length<=1000000)(hbase:base<=w.heap.size)(hK:∀v' w',Byt base w' v' (l++[c])->Below base w w'->wpList prog ops Q rest (a.put o.dst v') w'):wpList prog ops Q (o::rest) a w:=by
 obtain⟨i,hi,hz0,hz1,hz2⟩:=iM Tryz.infoByte;obtain⟨g,cap,rfl,h1,h2,h3,h4,h5,h6⟩:=hb
 have hnew:∀j u,[Value.int .u8 (c.toNat:Int)][j]?=lJ u->w.cell? (ad.add j)=lJ u:=by
  intro j u hj
  match j,hj with
  |0,hj=>simp at hj;subst hj;simpa[Addr.add]using hc
 refine wpList_append_arg w hgd s x _ hop 5 i (kW .u8 0) 1 1 underlying152 hi hz0 hz1 hz2 rfl (by decide) g 0 l.length cap (l.map fun c=>Value.int .u8 c.toNat) hs (by simp) ?_ ad 1 1 [kW .u8 c.toNat] hx rfl hnew (fun u hu=>by simp at hu;subst hu;rfl) ?_ (by unfold maxLen;omega) (by omega) ?_ ?_
 ·intro j u hj;(have hjl:j<l.length:=by have:=(eA.1 hj).1;simpa using this);rw[eC,h6 j hjl,<-hj];simp[hjl]
 ·intro hr j hj;(have e0:j=0:=by simpa using hj);subst e0;exact h5 _ (by omega)
 ·intro hr;(have hset:w.setCells g (0+l.length*1) [Value.int .u8 (c.toNat:Int)]=lG w ⟨g,l.length,lI⟩ (kW .u8 c.toNat):=by simp[World.setCells]);rw[hset];refine hK _ _ ⟨g,cap,by simp,h1,by simpa[World.setCell]using h2,by simpa using hr,h4,fun j hj=>?_,fun j hj=>?_⟩ (brf.setCell h1 _)
  ·have:=World.frozen?_setCells g [Value.int .u8 (c.toNat:Int)] l.length w ⟨g,j,lI⟩;rw[show w.setCells g l.length [Value.int .u8 (c.toNat:Int)]=lG w ⟨g,l.length,lI⟩ (kW .u8 c.toNat)from rfl]at this;refine⟨?_,this.trans (h5 j hj).2⟩;by_cases e:j=l.length
   ·subst e
    have:=World.cell?_setCells_in g [Value.int .u8 (c.toNat:Int)] l.length w (fun j hj=>by have e0:j=0:=by simpa using hj
                                                                                           subst e0;exact(h5 _ (by omega)).1) 0 (by simp)
    rw[show w.setCells g l.length [Value.int .u8 (c.toNat:Int)]=lG w ⟨g,l.length,lI⟩ (kW .u8 c.toNat)from rfl,ia]at this;rw[this];rfl
   ·have:=World.cell?_setCells_out g [Value.int .u8 (c.toNat:Int)] l.length w ⟨g,j,lI⟩ (fun _ _=>by simp;omega);rw[show w.setCells g l.length [Value.int .u8 (c.toNat:Int)]=lG w ⟨g,l.length,lI⟩ (kW .u8 c.toNat)from rfl]at this;rw[this];exact(h5 j hj).1
  ·by_cases e:j=l.length
   ·subst e
    have:=World.cell?_setCells_in g [Value.int .u8 (c.toNat:Int)] l.length w (fun j hj=>by have e0:j=0:=by simpa using hj
                                                                                           subst e0;exact(h5 _ (by omega)).1) 0 (by simp)
    rw[show w.setCells g l.length [Value.int .u8 (c.toNat:Int)]=lG w ⟨g,l.length,lI⟩ (kW .u8 c.toNat)from rfl,ia]at this;rw[this];simp
   ·(have hjl:j<l.length:=by simp at hj;omega);have:=World.cell?_setCells_out g [Value.int .u8 (c.toNat:Int)] l.length w ⟨g,j,lI⟩ (fun _ _=>by simp;omega);rw[show w.setCells g l.length [Value.int .u8 (c.toNat:Int)]=lG w ⟨g,l.length,lI⟩ (kW .u8 c.toNat)from rfl]at this;rw[this,h6 j hjl,List.getElem_append_left hjl]
 ·intro hr v' w' ho hg;have hB:=wE (l:=l++[c]) (by simpa using ho) (by simp) (by omega);obtain⟨g',cap',e,h1',rest⟩:=hB;exact hK v' w' ⟨g',cap',e,by omega,rest⟩ ((eB base w).grown hg hbase (fun k e=>by cases e))
theorem Dc (w:lM)(s:ByteArray)(hs:s.size<=1000000):∃v w',(convert 9 152 (lC s)).run prog w=.ok v w'/\Byt w.heap.size w' v s.data.toList/\Below w.heap.size w w':=by
 refine⟨_,_,run_bytes_of_string w _ _ 5 s underlying9 underlying152 underlying5,?_,?_⟩
 ·have g:=grownCap_ge w s.size 0 5;have c:=grownCap_le_maxLen w s.size 0 5 (by unfold maxLen;omega);generalize grownCap w s.size 0 5=C at *;(have e:s.data.toList.length=s.size:=by simp);(have f:(bytesRow s C).size=C:=by have:s.data.size=s.size:=rfl;simp[bytesRow];omega);have b:(w.drew.alloc (lE (bytesRow s C) 5 ((bytesRow s C).size,(bytesRow s C).size+1))).heap[w.heap.size]?=lJ (lE (bytesRow s C) 5 ((bytesRow s C).size,(bytesRow s C).size+1)):=heap_alloc_new w.drew _;refine⟨w.heap.size,C,by rw[e],lR,(ek.1 b).1,by omega,c,fun j hj=>⟨?_,?_⟩,fun j hj=>?_⟩
  ·rw[hH _ _ j _ _ _ b,iN (by omega)];rfl
  ·(have d:¬ C<=j:=by omega);unfold World.frozen?;simp only[];rw[b];simp[f,d]
  ·rw[hH _ _ j _ _ _ b];(have a:j<s.data.size:=by simpa using hj);unfold bytesRow;rw[Array.getElem?_append_left (by simpa using a),Array.getElem?_map,iN a];rfl
 ·exact brf.drew.alloc lR _
theorem vC (h:Byt base w v l):(convert 152 9 v).run prog w=.ok (lC ⟨l.toArray⟩) w:=by
 obtain⟨g,a,rfl,c,d,e,f,i,b⟩:=h;exact run_convert_bytes_back w _ _ 5 ⟨g,0,lI⟩ a l underlying152 underlying5 underlying9 (fun j hj=>by rw[Addr.add_lit,eC];exact b j hj)
theorem Byt.mono {base':Nat}(h:Byt base w v l)(hb:base'<=base):Byt base' w v l:=by
 obtain⟨g,b,e,c,a⟩:=h;exact⟨g,b,e,eh hb c,a⟩
variable{m:Nat}
theorem CY (hv:Byt base w v l)(hm:m<10000)(hl:l.length<=900000)(hb:base<=w.heap.size):Calls prog 155 #[v,kW lD m] w fun e w'=>∃v',e=lF v'/\Byt base w' v' (l++pad4 m)/\Below base w w':=by
 go_enter func155,ntmps155;go_wp2
 go_loopw [0,5] (fun v0 vu wr=>∃(j u:Nat),((j=0/\u=1000)\/(j=1/\u=100)\/(j=2/\u=10)\/(j=3/\u=1)\/(j=4/\u=0))/\vu=kW lD u/\Byt base wr v0 (l++(pad4 m).take j)/\Below base w wr) (fun _ vu _=>(intOf vu).toNat)
 case atStart=>exact⟨0,1000,.inl ⟨rfl,rfl⟩,rfl,by simpa[Hid]using hv,eB _ _⟩
 case round=>
  obtain⟨j,u,k,rfl,hB,b⟩:=hrel;rcases k with⟨rfl,rfl⟩|⟨rfl,rfl⟩|⟨rfl,rfl⟩|⟨rfl,rfl⟩|⟨rfl,rfl⟩
  ·(have h:(((UInt8.ofNat (48+m/1000%10)).toNat:Nat):Int)=48+(m:Int)/1000%10:=by rw[mT _ (by omega)];omega);(have a:(wr.alloc (lE #[kW .u8 (48+(m:Int)/1000%10)] 5)).cell? ⟨wr.heap.size,0,lI⟩=lJ (kW .u8 ((UInt8.ofNat (48+m/1000%10)).toNat:Nat)):=by rw[h];exact(i1 wr _ _).cell 0 _ rfl);have i:=a;go_wp2_with (at_builtin;refine qy _ rfl _ _ rfl base _ (l++(pad4 m).take 0) (UInt8.ofNat (48+m/1000%10)) ⟨wr.heap.size,0,lI⟩ rfl rfl (hB.iP (brf.alloc lR _)) i (by simp[pad4];omega) (by have:=b.size;simp;omega) ?_);intro v' w' c d;have f:=c;have g:=b.trans ((brf.alloc (by have:=b.size;omega) _).trans d);go_wp2
   go_roundw
   (case rel=>exact⟨1,100,by simp,rfl,by simpa[pad4,Hid]using f,g⟩);case measure=>simp[intOf]
  ·(have h:(((UInt8.ofNat (48+m/100%10)).toNat:Nat):Int)=48+(m:Int)/100%10:=by rw[mT _ (by omega)];omega);(have a:(wr.alloc (lE #[kW .u8 (48+(m:Int)/100%10)] 5)).cell? ⟨wr.heap.size,0,lI⟩=lJ (kW .u8 ((UInt8.ofNat (48+m/100%10)).toNat:Nat)):=by rw[h];exact(i1 wr _ _).cell 0 _ rfl);have i:=a;go_wp2_with (at_builtin;refine qy _ rfl _ _ rfl base _ (l++(pad4 m).take 1) (UInt8.ofNat (48+m/100%10)) ⟨wr.heap.size,0,lI⟩ rfl rfl (hB.iP (brf.alloc lR _)) i (by simp[pad4];omega) (by have:=b.size;simp;omega) ?_);intro v' w' c d;have f:=c;have g:=b.trans ((brf.alloc (by have:=b.size;omega) _).trans d);go_wp2
   go_roundw
   (case rel=>exact⟨2,10,by simp,rfl,by simpa[pad4,Hid]using f,g⟩);case measure=>simp[intOf]
  ·(have h:(((UInt8.ofNat (48+m/10%10)).toNat:Nat):Int)=48+(m:Int)/10%10:=by rw[mT _ (by omega)];omega);(have a:(wr.alloc (lE #[kW .u8 (48+(m:Int)/10%10)] 5)).cell? ⟨wr.heap.size,0,lI⟩=lJ (kW .u8 ((UInt8.ofNat (48+m/10%10)).toNat:Nat)):=by rw[h];exact(i1 wr _ _).cell 0 _ rfl);have i:=a;go_wp2_with (at_builtin;refine qy _ rfl _ _ rfl base _ (l++(pad4 m).take 2) (UInt8.ofNat (48+m/10%10)) ⟨wr.heap.size,0,lI⟩ rfl rfl (hB.iP (brf.alloc lR _)) i (by simp[pad4];omega) (by have:=b.size;simp;omega) ?_);intro v' w' c d;have f:=c;have g:=b.trans ((brf.alloc (by have:=b.size;omega) _).trans d);go_wp2
   go_roundw
   (case rel=>exact⟨3,1,by simp,rfl,by simpa[pad4,Hid]using f,g⟩);case measure=>simp[intOf]
  ·(have h:(((UInt8.ofNat (48+m%10)).toNat:Nat):Int)=48+(m:Int)%10:=by rw[mT _ (by omega)];omega);(have a:(wr.alloc (lE #[kW .u8 (48+(m:Int)%10)] 5)).cell? ⟨wr.heap.size,0,lI⟩=lJ (kW .u8 ((UInt8.ofNat (48+m%10)).toNat:Nat)):=by rw[h];exact(i1 wr _ _).cell 0 _ rfl);have i:=a;go_wp2_with (at_builtin;refine qy _ rfl _ _ rfl base _ (l++(pad4 m).take 3) (UInt8.ofNat (48+m%10)) ⟨wr.heap.size,0,lI⟩ rfl rfl (hB.iP (brf.alloc lR _)) i (by simp[pad4];omega) (by have:=b.size;simp;omega) ?_);intro v' w' c d;have f:=c;have g:=b.trans ((brf.alloc (by have:=b.size;omega) _).trans d);go_wp2
   go_roundw
   (case rel=>exact⟨4,0,by simp,rfl,by simpa[pad4,Hid]using f,g⟩);case measure=>simp[intOf]
  ·go_wp2;go_ret;exact⟨_,rfl,by have:=hB;simpa[pad4]using this,b⟩
open Go.Lib (decDigits)
theorem vE (xs:List Int)(i:Nat)(h:i<xs.length):val (xs.drop i)=lm xs i+10000*val (xs.drop (i+1)):=by
 rw[js h,val];unfold lm;simp[h]
theorem Hh (m k:Nat)(hk:k<(zA m).length):1<=val ((zA m).drop k):=by
 have a:=mQ (qA m) k;have d:=l4 a;by_cases h:1<=val ((zA m).drop k)
 ·exact h
 ·exfalso;(have e:val ((zA m).drop k)=0:=by omega);(have c:xQ ((zA m).drop k):=by have:=oq m;unfold xQ at *;rw[List.getLast?_drop,ec (by omega)];exact this);have:=tQ a c;rw[e]at this;have b:=congrArg List.length this;rw[iC]at b;have:(zA (Int.toNat 0)).length=0:=rfl;omega
theorem GA (m k:Nat)(hk:k+1<(zA m).length):decDigits (val ((zA m).drop (k+1))).toNat++pad4 (lm (zA m) k).toNat=decDigits (val ((zA m).drop k)).toNat:=by
 have a:=Hh m (k+1) hk;have b:=JA (qA m) k;have c:=vE (zA m) k (by omega);rw[<-Ig _ _ (by omega) (by omega)];congr 1;omega
theorem mN (m n:Nat)(h:(zA m).length=n):(decDigits m).length<=4*n+1:=by
 refine od (by omega) ?_;have:=m6 m;rw[h]at this;(have e:(10000:Nat)^n=10^(4*n):=by rw[Nat.pow_mul]);rw[iQ];omega
theorem sH {ao:Option Addr}{cap:Nat}(hr:Row w ao n cap (zA m))(hn:n<=40000)(ht:Tab w):Calls prog 109 #[lA #[kX ao n cap]] w fun e w'=>e=lF (lC ⟨(decDigits m).toArray⟩)/\Below w.heap.size w w':=by
 have l1:=hr.len;have E:=i1 w #[kX ao n cap] 88;have d:=(eB _ w).alloc lR (lE #[kX ao n cap] 88);by_cases Q:n=0
 ·have T:m=0:=jFE.1 (iY (by omega));subst Q;(have e:decDigits 0=[48]:=by rw[mU (by omega)];rfl);rw[T,e];clear hr;go_enter func109,ntmps109;go_wp2;go_ret;exact⟨rfl,d⟩
 ·obtain⟨b,o,rfl,A⟩:=hr.head (by omega);obtain⟨q,rfl⟩:∃q,n=q+1:=⟨n-1,by omega⟩;have N:=hr.cell b o rfl q (by omega);have L:=ht.iP d;obtain⟨t0,t1⟩:=JA (qA m) q;(have l:Hid (Go.Lib.itoa (lm (zA m) q)=decDigits (lm (zA m) q).toNat):=by show _=_;unfold Go.Lib.itoa;rw[ec (by omega)]);(have z:(Go.Lib.itoa (lm (zA m) q)).length<=4:=by show _<=_;rw[l.out];exact od (by omega) (by omega));(have R:(((q:Int)+1) == 0)=lL:=by rw[eg];omega);clear ht;go_enter func109,ntmps109;go_wp2_with fail;refine(Bb (by omega) (by omega) _ L).mono ?_;rintro e W ⟨rfl,a⟩
  obtain⟨v,t,I,hB,f⟩:=Dc W ⟨(Go.Lib.itoa (lm (zA m) q)).toArray⟩ (by
   have:=z
   show(Go.Lib.itoa (lm (zA m) q)).toArray.size<=_
   rw[List.size_toArray];omega)
  have B:=a.size;simp only[em]at B;have i:=d.trans ((a.mono (by simp)).trans (f.mono (by omega)));have M:=(E.iP a E.lt).iP f (by omega);(have J:Byt (w.heap.size+1) t v (decDigits (val ((zA m).drop q)).toNat):=by(have G:val ((zA m).drop q)=lm (zA m) q:=by rw[vE _ q (by omega),jP (by omega)];simp[val]);rw[G,<-l.out];exact hB.mono (by omega));clear a f hB;go_wp2
  go_loopw [5,6] (fun vt vi wr=>∃k:Nat,k<=q/\vi=kW lD ((k:Int)-1)/\Hid (Byt (w.heap.size+1) wr vt (decDigits (val ((zA m).drop k)).toNat))/\Hid (Below (w.heap.size+1) t wr)) (fun _ vi _=>(intOf vi+1).toNat)
  case atStart=>exact⟨q,lR,by go_num,J,eB _ _⟩
  case round=>
   obtain⟨k,Y,rfl,hB,s⟩:=hrel;by_cases V:k=0
   ·subst V;have h:=vC hB;(have e:Hid ((val ((zA m).drop 0)).toNat=m):=by show _=_;rw[jF,JG];omega);rw[e.out]at h;go_wp2;go_ret;exact⟨rfl,i.trans (s.mono (by omega))⟩
   ·obtain⟨p,rfl⟩:∃p,k=p+1:=⟨k-1,by omega⟩;(have U:(0:Int)<=((p+1:Nat):Int)-1:=by omega);have x1:=(M.iP s (by omega)).cell 0 _ rfl;have x:=i.trans (s.mono (by omega));have X:=qs x (hr.cell b o rfl p (by omega)) A;have C:=hid (GA m p (by omega));obtain⟨u0,u1⟩:=JA (qA m) p
    have r:(decDigits (val ((zA m).drop (p+1))).toNat).length<=900000:=by
     have S:=od (n:=(val ((zA m).drop (p+1))).toNat) (k:=4*((zA m).length-(p+1))+1) (by omega) (by
      have H:=mZ (mQ (qA m) (p+1))
      rw[iC]at H
      have G:((10000^((zA m).length-(p+1)):Nat):Int)=10000^((zA m).length-(p+1)):=Int.natCast_pow 10000 _
      have O:(10000:Nat)^((zA m).length-(p+1))=10^(4*((zA m).length-(p+1))):=by rw[Nat.pow_mul]
      have Z:0<(10000:Nat)^((zA m).length-(p+1)):=Nat.pow_pos (by omega)
      rw[iQ,<-O]
      generalize(10000:Nat)^((zA m).length-(p+1))=P at *
      omega)
     show _<=_;omega
    (have D:w.heap.size+1<=wr.heap.size:=by obtain⟨g,F,_,S,H,_⟩:=hB;omega);clear N;go_wp2_with fail;rw[show lm (zA m) p=((lm (zA m) p).toNat:Int)from by omega];refine(CY hB (by omega) r D).mono ?_;rintro e w4 ⟨v',rfl,c,j⟩;rw[C.out]at c;go_wp2
    go_roundw
    (case rel=>exact⟨p,by omega,by go_num,c,s.trans j⟩);case measure=>simp[intOf]
end Go.Proofs.YtigokanoflkinaaGreatDoor
