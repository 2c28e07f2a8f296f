/- KOS, LHnd, RefBas, joined. -/
import Derived.Test.YtigokanoflkinaaGreatDoorZB
import Derived.ProofKit
import Derived.Deep.Strs
import Derived.OpenShut
import Derived.Deep.DeepCutAuto
set_option maxHeartbeats 2000000
set_option maxRecDepth 20000
namespace Go.Proofs.YtigokanoflkinaaGreatDoor
set_option linter.unusedSimpArgs false
set_option linter.unusedVariables false
open Go.RowKit Por Go.ChangeShapes Go.WideShapes Go.Proofs.Tryz
open Value renaming slice->kX,int->kW,bool->kZ,agg->lA
open IntKind renaming i64->lD
open Option renaming none->lI,some->lJ
open Bool renaming true->lK,false->lL
open Go renaming World->lM,Value->lN
open Obj renaming cells->lE
open Ending renaming returned->lF
open World renaming setCell->lG,cell?->lH
theorem Tryz.laidOut:laidOutB prog=lK:=by kernel_rfl
theorem Tryz.cellsInt:prog.cellsOf 3=1:=by kernel_rfl
theorem Tryz.cellsInts:prog.cellsOf 22=1:=by kernel_rfl
variable{w:lM}{v:lN}
theorem tx {a:Addr}(h:w.cell? a=lJ v):a=⟨a.block,a.off,lI⟩:=by
 obtain⟨b,o,s⟩:=a;unfold World.cell? at h
 cases s with
 |none=>rfl
 |some x=>simp only[jm,eS]at h;split at h<;>cases h
variable{W:lM}{sp:Nat->Bool}{hd:Bool}{fuel:Nat}{cs:List lN}
theorem Gy {H:Type}{enc:TypeId×lN->H}{x:DataW H×List MemPlace}(h:DataW.trod enc prog W 0 sp hd fuel 22 cs=lJ x):∃ao n cap xs,cs=[kX ao n cap]/\Arr W 1 ao n cap (zi xs):=by
 rcases open_ints eR iz Tryz.cellsInt h with⟨f,t⟩|⟨a,d,cap,m,f,_,q,r,w,t,c,s⟩
 ·exact⟨lI,0,0,[],f,Arr.nil _ _⟩
 ·(have y:d<=m.length:=by rw[w];split <;> omega);refine ⟨lJ a,d,cap,m.take d,f,⟨by rw[j9,im];omega,q,r,fun h0=>?_,?_⟩⟩
  ·have g:=c 0 (by omega);(have e:a.add 0=a:=by unfold Addr.add;simp);rw[e]at g;have hs:=tx g;exact⟨a.block,a.off,by rw[<-hs],World.block_lt_of_cell? W a g⟩
  ·intro b o e i v k j u l
   cases e
   (have p:i<d:=by have:=(eA.1 k).1;rw[j9,im]at this;omega);have g:=c i (by omega);rw[add_plain]at g;unfold zi at k;rw[eD,eH,ed p,en (by omega)]at k
   cases k
   match j with
   |0=>rw[ic,ia,g,<-l];rw[ej,en (by omega)];rfl
   |j+1=>simp[Value.cells]at l
theorem three {α:Type}{l:List α}(h:l.length=3):∃a b c,l=[a,b,c]:=by
 match l,h with
 |[a,b,c],_=>exact⟨a,b,c,rfl⟩
variable{zs:List Int}{n i:Nat}
theorem nE (h:i<n):lm (zs.take n) i=zs[i]?.getD 0:=by
 unfold lm;rw[ej,eH,ed h]
def WB {H:Type}(t:TypeId)(d:DataW H):Prop:=∀z∈d.weights prog t,z<=reachBytes
theorem rV {H:Type}{ts:List TypeId}{ds:List (DataW H)}(h:(DataW.weightsEach prog ts ds).all (·<=reachBytes)=lK):∀z∈DataW.weightsEach prog ts ds,z<=reachBytes:=by
 rw[ie]at h;exact fun z hz=>iI (h z hz)
theorem Jl {H:Type}{e:TypeId}{d:DataW H}{l:List (DataW H)}(h:d∈l):∀z∈d.weights prog e,z∈DataW.weightsAll prog e l:=by
 induction l with
 |nil=>cases h
 |cons x r ih=>
  intro z a;simp only[DataW.weightsAll,iu];rcases jn.1 h with e|e
  ·subst e;exact Or.inl a
  ·exact Or.inr (ih e z a)
theorem Tryz.bytesInt:prog.bytesOf 3=8:=by kernel_rfl
theorem DF {H:Type}{enc:TypeId×lN->H}{x:DataW H×List MemPlace}(h:DataW.trod enc prog W 0 sp hd fuel 22 cs=lJ x):∃ao n cap xs,cs=[kX ao n cap]/\Arr W 1 ao n cap (zi xs)/\(WB 22 x.1->n*8<=reachBytes):=by
 obtain⟨ao,n,cap,xs,c,j⟩:=Gy h;refine⟨ao,n,cap,xs,c,j,fun hw=>?_⟩;rcases open_ints eR iz Tryz.cellsInt h with⟨b,f⟩|⟨a,p,e,g,b,_,q,r,m,f,d,l⟩
 ·rw[c]at b;cases b;unfold reachBytes;omega
 ·rw[c]at b;cases b;(have o:n<=g.length:=by rw[m];split<;>omega);rw[f]at hw;(have i:(lits (H:=H) lD (g.take n)).length=n:=by simp[lits];omega);unfold WB at hw;simp only[DataW.weights,eR,Tryz.bytesInt]at hw;have k:=hw _ (List.mem_cons_self);rw[i]at k;omega
open Go.RowKit Por Go.Proofs.Tryz
variable{ops:Array Oper}{rest:List Oper}{o:Oper}{a:Act}{Q:Exit->Act->lM->Prop}
theorem qB (w:lM)(hg:o.guard=lI)(l c:Operand)(hop:o.op=Op.makeSlice 22 l c)(L C:Int)(n:Nat)(hl:a.eval l=kW lD L)(hc:a.eval c=kW lD C)(hL:L=(n:Int))(hC:C=(n:Int))(hn:n<=35184372088832)(hK:∀w',Blk w' w.heap.size (List.replicate n 0)->Below w.heap.size w w'->wpList prog ops Q rest (a.put o.dst (kX (lJ ⟨w.heap.size,0,lI⟩) n n)) w'):wpList prog ops Q (o::rest) a w:=by
 obtain⟨i,u,j,m,p⟩:=iM Tryz.infoInt;refine wpList_make_full w hg l c 22 hop w.heap.size 3 i (kW lD 0) 1 eR u j m lD lD L C n hl hc hL hC (by rw[p];omega) (by unfold maxLen;omega) lR ?_;intro w' v h;have t:Bl w w':=brf.grown h lR (fun k e=>by cases e);rcases v.2 with⟨b,_⟩|⟨g,r,d,b,_,q,x,y,s,f⟩
 ·cases b
 ·simp only[iV,io,Addr.mk.injEq,and_true,true_and]at b;obtain⟨rfl,rfl⟩:=b;(have e:d=((List.replicate n (0:Int)).map (Value.int lD)).toArray:=by apply Array.toList_inj.1;rw[ic]at f s;rw[ew (by rw[Array.length_toList];omega)]at f;rw[f,show(Value.int lD 0).cells=#[kW lD 0]from rfl,toList_madeCells_one];simp);rw[e]at q;exact hK w' q t
theorem CX (w0 w:lM)(hgd:o.guard=lI)(d s:Operand)(ho:o.op=.call {callee:=.builtin .copy,args:=#[d,s],argTypes:=#[22,22]})(g m n cap:Nat)(ao:Option Addr)(zs xs:List Int)(hd:a.eval d=kX (lJ ⟨g,0,lI⟩) m m)(hs:a.eval s=kX ao n cap)(hz:Blk w g zs)(hzl:zs.length=m)(hr:Arr w 1 ao n cap (zi xs))(hnm:n<=m)(hb:Below w0.heap.size w0 w)(hle:w0.heap.size<=g)(h:∀w',Hid (Blk w' g (xs++zs.drop n))->Below w0.heap.size w0 w'->wpList prog ops Q rest (a.put o.dst (goInt n)) w'):wpList prog ops Q (o::rest) a w:=by
 have p:=hr.len;rw[j9]at p;subst p;(have e:(zi xs).length=Nat.min xs.length m:=by rw[j9];exact(Nat.min_eq_left hnm).symm);refine wpList_copy_splice hgd d s 22 22 ho 3 eR Tryz.sizeInt _ _ _ _ _ _ hd hs g 0 (zs.map (Value.int lD)) 3 hz (zi xs) e ?_ (by rw[j9,iv];omega) ?_ w0.heap.size w0 hb hle ?_
 ·intro l;rw[j9]at l;obtain⟨b,k,rfl,y⟩:=hr.head l;refine⟨rfl,_,rfl,fun j v c=>?_⟩;have u:j<xs.length:=by have:=(eA.1 c).1;rwa[j9]at this
  have:=hr.cell b k rfl j v c 0 v (by
   rw[pq xs u]at c;cases c;rfl)
  (have f:(⟨b,k,lI⟩:Addr).add j=⟨b,k+j,lI⟩:=by unfold Addr.add;split<;>simp_all);rw[f]
  simpa using this
 ·intro v c;unfold zi at c;obtain⟨x,_,rfl⟩:=jB.1 c;rfl
 ·intro w' z i;(have q:goInt (zi xs).length=goInt xs.length:=by rw[j9]);rw[q];refine h w' ?_ i;have t:=z.out;unfold Hid Blk;rw[t];(have r:splice (zs.map (Value.int lD)) 0 (zi xs)=(xs++zs.drop xs.length).map (Value.int lD):=by unfold splice;simp[zi]);rw[r]
variable{j g:Nat}
theorem Iq (h:Blk w g zs)(hj:j<zs.length):lH w ⟨g,0+j,lI⟩=lJ (kW lD (lm zs j)):=by rw[eC];exact h.cell j hj
variable{xs ys:List Int}
theorem sS (h:j<xs.length):lm (xs++ys) j=lm xs j:=by
 unfold lm;rw[ej,ej,eU h]
theorem qD (j:Nat):lm (xs++ys) (xs.length+j)=lm ys j:=by
 unfold lm;rw[ej,ej,eM (by omega)];simp
variable{c:Int}
theorem Hi {a b:Int}:(xs++[a,b]).set xs.length c=xs++[c,b]:=by
 rw[List.set_append_right _ _ lR];simp
theorem Fy {a b:Int}:(xs++[a,b]).set (xs.length+1) c=xs++[a,c]:=by
 rw[List.set_append_right _ _ (by omega)];simp
variable{ao:Option Addr}{cap:Nat}
theorem EH (hr:Arr w 1 ao n cap (zi xs))(hn:n<=17592186044416):Calls prog 9 #[kX ao n cap] w fun e w'=>∃g,w.heap.size<=g/\e=lF (kX (lJ ⟨g,0,lI⟩) n (n+2))/\Blk w' g (xs++[7,7])/\Below w.heap.size w w':=by
 have o:=hr.len;rw[j9]at o;subst o;have j:=hr;clear hr;go_enter func9,ntmps9;go_wp2_with (at_make;refine qB _ rfl _ _ rfl _ _ (xs.length+2) rfl rfl (by simp) (by simp) (by omega) ?_);intro x p m;have k:=p;have h:=m;clear p m;go_wp2_with (refine CX w _ rfl (.tmp 10) (.tmp 11) rfl w.heap.size (xs.length+2) xs.length cap ao (List.replicate (xs.length+2) 0) xs rfl rfl k (by simp) (j.iP h) (by omega) h lR ?_);intro f d c;(have a:Blk f w.heap.size (xs++[0,0]):=by simpa[Hid,List.replicate]using d);clear k h d j;(have r:lH f ⟨w.heap.size,xs.length,lI⟩=lJ (kW lD 0):=by rw[a.cell xs.length (by simp)];have:=qD (xs:=xs) (ys:=[0,0]) 0;rw[ia]at this;rw[this];rfl);(have s:lH f ⟨w.heap.size,xs.length+1,lI⟩=lJ (kW lD 0):=by rw[a.cell (xs.length+1) (by simp),qD (xs:=xs) (ys:=[0,0]) 1];rfl);have y:=a.frozen xs.length;have z:=a.frozen (xs.length+1);have v:=a.lt;(have t:(xs.length:Int)<((xs.length+2:Nat):Int):=by omega);(have u:(xs.length:Int)+1<((xs.length+2:Nat):Int):=by omega);(have q:Blk ((lG f ⟨w.heap.size,xs.length,lI⟩ (kW lD 7)).setCell ⟨w.heap.size,xs.length+1,lI⟩ (kW lD 7)) w.heap.size (xs++[7,7]):=by have l:=(a.set xs.length 7).set (xs.length+1) 7;rw[Hi,Fy]at l;exact l);have i:Bl w ((lG f ⟨w.heap.size,xs.length,lI⟩ (kW lD 7)).setCell ⟨w.heap.size,xs.length+1,lI⟩ (kW lD 7)):=(c.setCell lR _).setCell lR _;clear a c;go_wp2;go_ret;exact⟨_,lR,rfl,q,i⟩
theorem xu (hb:Blk w g (xs++[7,7]))(hr:Arr w 1 ao n cap (zi xs))(hn:n<=17592186044416):Calls prog 13 #[kX (lJ ⟨g,0,lI⟩) n (n+2),kX ao n cap] w fun e w'=>e=lF (kZ lK)/\Below w.heap.size w w':=by
 have l:=hr.len;rw[j9]at l;subst l;(have u:(xs.length:Int)+2<=((xs.length+2:Nat):Int):=by omega);go_enter func13,ntmps13;go_wp2
 go_loopg[7] xs.length (fun gg ix wr=>∃k:Nat,gg=xs.length-k/\k<=xs.length/\ix=kW lD k/\Bl w wr)
 case atStart=>exact⟨0,rfl,ep _,rfl,eB _ _⟩
 case round=>
  obtain⟨k,p,t,rfl,hB⟩:=hrel;have q:=jl hB hb.lt;have a:=hb.iP hB hb.lt;by_cases c:k<xs.length
  ·obtain⟨b,o,rfl,m⟩:=(hr.iP hB).head (by omega);have i:=(hr.iP hB).int rfl c;have f:=Iq a (j:=k) (by simp;omega);rw[sS c,eC]at f;(have r:(k:Int)<(xs.length:Int):=by omega);(have s:(k:Int)<((xs.length+2:Nat):Int):=by omega);(have v:(k:Int)<(xs.length:Int)+2:=by omega);generalize lm xs k=x at i f;(have y:(x != x)=lL:=by simp);(go_upto_region 6 with fail);go_quiet (fail);go_wp2;go_roundg (xs.length-(k+1));exact⟨k+1,rfl,by omega,by go_num,eY hB _⟩;omega
  ·(obtain rfl:k=xs.length:=by omega);(have i:lH wr ⟨g,xs.length,lI⟩=lJ (kW lD 7):=by rw[a.cell xs.length (by simp)];have:=qD (xs:=xs) (ys:=[7,7]) 0;rw[ia]at this;rw[this];rfl);(have f:lH wr ⟨g,xs.length+1,lI⟩=lJ (kW lD 7):=by rw[a.cell (xs.length+1) (by simp),qD (xs:=xs) (ys:=[7,7]) 1];rfl);(have r:(xs.length:Int)<((xs.length+2:Nat):Int):=by omega);(have s:(xs.length:Int)+1<((xs.length+2:Nat):Int):=by omega);go_wp2;go_ret;exact⟨rfl,hB⟩
structure Touch (T:TypeId)(B:Nat)(w w':lM):Prop where
  size:w.heap.size<=w'.heap.size
  block:∀k,k<w.heap.size->(k<B\/∀cur fz,w.heap[k]?≠lJ (lE cur T fz))->w'.heap[k]?=w.heap[k]?
variable{B size:Nat}{w':lM}
theorem Touch.of_append {T:TypeId}{xs:List lN}(hown:w.ownsRow B T size v n xs)(hg:w.grownBy w' v.ownBlock):Touch T B w w':=by
 refine⟨hg.size,fun k hk h=>hg.block k hk (fun e=>?_)⟩;rcases hown.2 with⟨rfl,_⟩|⟨g,a,b,rfl,f,d,_⟩
 ·cases e
 ·have c:lJ k=lJ g:=e
  cases c
  rcases h with h|h
  ·omega
  ·exact h _ _ d
variable{b:Nat}{cur:Array lN}
theorem Touch.of_set {T:TypeId}(hb:w.heap[b]?=lJ (lE cur T (0,0)))(hB:B<=b):Touch T B w (lG w ⟨b,i,lI⟩ v):=by
 refine⟨by simp[World.setCell],fun k hk h=>?_⟩
 have a:k≠b:=fun e=>by
  subst e;rcases h with h|h
  ·omega
  ·exact h _ _ hb
 exact eT w _ v k a
theorem Touch.bx {T T':TypeId} {cs:Array lN} (h:Touch T B w w') (hx:Bx w b cs T') (hT:T'≠T):Bx w' b cs T':=
  (h.block b hx.lt (.inr (fun cur fz e=>by unfold Bx at hx;rw[hx]at e;cases e;exact hT rfl))).trans hx
theorem Touch.blk {T:TypeId} (h:Touch T B w w') (hx:Blk w b zs) (hT:3≠T):Blk w' b zs:=
  (h.block b hx.lt (.inr (fun cur fz e=>by unfold Blk at hx;rw[hx]at e;cases e;exact hT rfl))).trans hx
variable{base:Nat}
theorem Touch.own {T T':TypeId}{xs:List lN}(h:Touch T B w w')(hx:w.ownsRow base T' size v n xs)(hT:T'≠T):w'.ownsRow base T' size v n xs:=by
 refine⟨hx.1,?_⟩;rcases hx.2 with d|⟨g,a,b,d,i,f,j⟩
 ·exact .inl d
 ·exact .inr ⟨g,a,b,d,i,(h.block g (ek.1 f).1 (.inr (fun c fz e=>by rw[f]at e;cases e;exact hT rfl))).trans f,j⟩
variable{T:Nat}
theorem JO {xs:List lN}(h:w.ownsRow base T size v n xs)(hb:Below w.heap.size w w'):w'.ownsRow base T size v n xs:=by
 refine⟨h.1,?_⟩;rcases h.2 with c|⟨g,a,b,c,e,d,f⟩
 ·exact .inl c
 ·exact .inr ⟨g,a,b,c,e,(hb.block g (ek.1 d).1).trans d,f⟩
def hs (d n:Nat):lN:=kX (lJ ⟨d,0,lI⟩) n (n+2)
def CrP (w:lM)(us:List Usr)(og n k:Nat)(dl:List lN):Prop:=
  dl.length=k/\∃arr,w.heap[og]?=lJ (lE arr 56 (0,0))/\arr.size=(n+1)*3/\∀i,i<k->∃d,og<d/\arr[i*3]?=lJ (hs d (ug us i).dem.length)/\arr[i*3+1]?=lJ (kW lD (ug us i).wt)/\arr[i*3+2]?=lJ (kW lD (ug us i).cap)/\Blk w d ((ug us i).dem++[7,7])/\dl[i]?=lJ (hs d (ug us i).dem.length)
variable{us:List Usr}{og k:Nat}{dl:List lN}
theorem CrP.iP (h:CrP w us og n k dl)(hb:Below w.heap.size w w'):CrP w' us og n k dl:=by
 obtain⟨m,a,c,o,p⟩:=h;refine⟨m,a,(hb.block og (ek.1 c).1).trans c,o,fun i hi=>?_⟩;obtain⟨d,e,f,g,j,b,l⟩:=p i hi;exact⟨d,e,f,g,j,b.iP hb b.lt,l⟩
theorem CrP.kC {T:TypeId}(h:CrP w us og n k dl)(ht:Touch T B w w')(h1:3≠T)(h2:56≠T):CrP w' us og n k dl:=by
 obtain⟨r,a,b,p,q⟩:=h;refine⟨r,a,?_,p,fun i hi=>?_⟩
 ·exact(ht.block og (ek.1 b).1 (.inr (fun c fz e=>by rw[b]at e;cases e;exact h2 rfl))).trans b
 ·obtain⟨d,f,g,j,l,m,o⟩:=q i hi;exact⟨d,f,g,j,l,ht.blk m h1,o⟩
theorem CrP.has (h:CrP w us og n k dl)(hj:j<(n+1)*3):(∃x,lH w ⟨og,j,lI⟩=lJ x)/\w.frozen? ⟨og,j,lI⟩=lL:=by
 obtain⟨_,a,b,c,_⟩:=h;exact⟨⟨a[j]'(by omega),(hH w og j _ _ _ b).trans (iN (by omega))⟩,jg w og j _ _ b⟩
theorem CrP.lt (h:CrP w us og n k dl):og<w.heap.size:=by
 obtain⟨_,a,b,_⟩:=h;exact(ek.1 b).1
variable{u0 u1 u2:lN}
theorem tY {arr:Array lN}(h:j<i\/i+2<j):(((arr.set! i u0).set! (i+1) u1).set! (i+2) u2)[j]?=arr[j]?:=by
 simp only[Array.set!_eq_setIfInBounds,Array.getElem?_setIfInBounds];rw[ec (by omega),ec (by omega),ec (by omega)]
theorem IJ {arr:Array lN}(u0 u1 u2:lN)(h:i+2<arr.size):(((arr.set! i u0).set! (i+1) u1).set! (i+2) u2)[i]?=lJ u0/\(((arr.set! i u0).set! (i+1) u1).set! (i+2) u2)[i+1]?=lJ u1/\(((arr.set! i u0).set! (i+1) u1).set! (i+2) u2)[i+2]?=lJ u2:=by
 simp only[Array.set!_eq_setIfInBounds,Array.getElem?_setIfInBounds,Array.size_setIfInBounds];refine⟨?_,?_,?_⟩
 ·rw[ec (by omega),ec (by omega),ed trivial,ed (by omega)]
 ·rw[ec (by omega),ed trivial,ed (by omega)]
 ·rw[ed trivial,ed (by omega)]
theorem Blk.kF {o:Nat} (h:Blk w g zs) (hne:b≠g):Blk (yr w b o u0 u1 u2) g zs:=
  ((h.jx ⟨b,o,lI⟩ u0 hne).jx ⟨b,o+1,lI⟩ u1 hne).jx ⟨b,o+2,lI⟩ u2 hne
variable{d:Nat}
theorem CrP.put (h:CrP w us og n k dl)(hk:k<n)(hd:og<d)(hb:Blk w d ((ug us k).dem++[7,7])):CrP (yr w og (k*3) (hs d (ug us k).dem.length) (kW lD (ug us k).wt) (kW lD (ug us k).cap)) us og n (k+1) (dl++[hs d (ug us k).dem.length]):=by
 obtain⟨a,arr,s,t,u⟩:=h;have v:=rz (u0:=hs d (ug us k).dem.length) (u1:=kW lD (ug us k).wt) (u2:=kW lD (ug us k).cap) (o:=k*3) s;refine⟨by simp[a],_,v,by simp[Array.set!_eq_setIfInBounds,t],fun i hi=>?_⟩;by_cases e:i=k
 ·subst e;obtain⟨b,c,f⟩:=IJ (arr:=arr) (i:=i*3) (hs d (ug us i).dem.length) (kW lD (ug us i).wt) (kW lD (ug us i).cap) (by omega);exact⟨d,hd,b,c,f,hb.kF (by omega),by rw[eM (by omega),a];simp⟩
 ·obtain⟨g,j,l,m,p,q,r⟩:=u i (by omega);exact⟨g,j,(tY (by omega)).trans l,(tY (by omega)).trans m,(tY (by omega)).trans p,q.kF (by omega),by rw[eU (by omega)];exact r⟩
def Crowd (w:lM)(us:List Usr)(og:Nat)(dl:List lN):Prop:=
  CrP w us og us.length us.length dl/\lH w ⟨og,us.length*3,lI⟩=lJ (kX lI 0 0)/\lH w ⟨og,us.length*3+1,lI⟩=lJ (kW lD 7)/\lH w ⟨og,us.length*3+2,lI⟩=lJ (kW lD 7)
theorem Crowd.iP (h:Crowd w us og dl)(hb:Below w.heap.size w w'):Crowd w' us og dl:=by
 obtain⟨b,c,d,e⟩:=h;have a:=b.lt;exact⟨b.iP hb,qs hb c a,qs hb d a,qs hb e a⟩
theorem Crowd.kr (h:Crowd w us og dl)(hn:us.length+1<=maxLen)(hd:∀i,i<us.length->(ug us i).dem.length+2<=maxLen):Users w (lJ ⟨og,0,lI⟩) us.length (us.length+1) us:=by
 obtain⟨⟨B,a,s,C,t⟩,_⟩:=h;refine⟨rfl,(List.range us.length).map (fun i=>lA #[a.getD (i*3) (kZ lL),kW lD (ug us i).wt,kW lD (ug us i).cap]),⟨by simp,by omega,hn,fun _=>⟨og,0,rfl,(ek.1 s).1⟩,?_⟩,?_⟩
 ·intro b o e i v f j u c
  cases e
  (have g:i<us.length:=by simpa using(eA.1 f).1);rw[eD,iL g]at f
  cases f
  obtain⟨d,y,l,q,r,p,z⟩:=t i g;(have n:a.getD (i*3) (kZ lL)=hs d (ug us i).dem.length:=by rw[eZ,l];rfl);have k:(Value.agg #[a.getD (i*3) (kZ lL),kW lD (ug us i).wt,kW lD (ug us i).cap]).cells[j]?=lJ u:=c;rw[n]at k;clear c;have c:=k;have A:(Value.agg #[hs d (ug us i).dem.length,kW lD (ug us i).wt,kW lD (ug us i).cap]).cells=#[hs d (ug us i).dem.length,kW lD (ug us i).wt,kW lD (ug us i).cap]:=rfl;rw[A]at c;rw[eC,hH w og _ _ _ _ s]
  match j with
  |0=>rw[ia,l];exact c
  |1=>rw[q];exact c
  |2=>rw[r];exact c
  |j+3=>simp at c
 ·intro i v f;(have g:i<us.length:=by simpa using(eA.1 f).1);rw[eD,iL g]at f
  cases f
  obtain⟨d,y,l,q,r,p,z⟩:=t i g;(have n:a.getD (i*3) (kZ lL)=hs d (ug us i).dem.length:=by rw[eZ,l];rfl);refine⟨lJ ⟨d,0,lI⟩,(ug us i).dem.length,(ug us i).dem.length+2,by show Value.agg #[a.getD (i*3) (kZ lL),_,_]=_;rw[n];rfl,?_⟩;refine⟨by rw[j9],by omega,hd i g,fun _=>⟨d,0,rfl,p.lt⟩,?_⟩;intro b o e j v f m u c
  cases e
  (have x:j<(ug us i).dem.length:=by have:=(eA.1 f).1;rwa[j9]at this);rw[pq _ x]at f
  cases f
  match m with
  |0=>have:=p.cell j (by simp;omega);rw[sS x]at this;simp only[ic,ia,eC];rw[this];exact c
  |m+1=>simp[Value.cells]at c
theorem Tryz.infoLst:(prog.info? 22).map (fun i=>(i.zero,i.size,i.bytes))=lJ (lJ (kX lI 0 0),1,24):=by kernel_rfl
theorem sj (w:lM)(hgd:o.guard=lI)(s x:Operand)(hop:o.op=Op.call {callee:=Callee.builtin Builtin.append,args:=#[s,x],argTypes:=#[29,29]})(base:Nat)(v:lN)(l:List lN)(ad:Addr)(c:Nat)(u:lN)(hs:a.eval s=v)(hx:a.eval x=kX (lJ ad) 1 c)(hown:w.ownsRow base 22 1 v l.length l)(h0:w.cell? (ad.add 0)=lJ u)(hu:u.oneCell'=lK)(hle:l.length+1<=3518437208883)(hb:base<=w.heap.size)(h:∀v' w',w'.ownsRow base 22 1 v' (l++[u]).length (l++[u])->Touch 22 base w w'->Below base w w'->wpList prog ops Q rest (a.put o.dst v') w'):wpList prog ops Q (o::rest) a w:=by
 obtain⟨i,A,e,f,m⟩:=iM Tryz.infoLst
 have d:∀k,v.ownBlock=lJ k->base<=k:=by
  intro k q;rcases hown.2 with⟨rfl,_⟩|⟨g,t,y,rfl,b,_⟩
  ·cases q
  ·cases q;exact b
 refine jw w hgd s x _ hop base 22 i (kX lI 0 0) 1 24 underlying29 A e f m rfl (by decide) v l.length l hs hown ad 1 c [u] hx (by simp) ?_ ?_ (by unfold maxLen;omega) (by omega) hb ?_
 ·intro j z p
  match j with
  |0=>rw[h0];simpa using p
  |j+1=>simp at p
 ·intro z r;simp at r;subst r;exact hu
 ·intro v' w' b n _;refine h v' w' (by rw[eK];exact b) (Touch.of_append hown n) ((eB base w).grown n hb d)
theorem j6 {cs:Array lN}{T:TypeId}(h:Bx w b cs T)(j:Nat)(v:lN):Bx (lG w ⟨b,j,lI⟩ v) b (cs.setIfInBounds j v) T:=eP w b j _ _ v h
theorem CrP.heap (h:CrP w us og n k dl):∃cur,w.heap[og]?=lJ (lE cur 56 (0,0)):=by
 obtain⟨_,a,b,_⟩:=h;exact⟨a,b⟩
theorem Touch.refl (T:TypeId)(B:Nat)(w:lM):Touch T B w w:=⟨lR,fun _ _ _=>rfl⟩
theorem Touch.set {T:TypeId}{a:lM}(h:Touch T B a w)(hb:a.heap[b]?=lJ (lE cur T (0,0)))(hB:B<=b):Touch T B a (lG w ⟨b,i,lI⟩ v):=by
 refine⟨by simp only[World.setCell];simpa using h.size,fun k hk c=>?_⟩
 have d:k≠b:=fun e=>by
  subst e;rcases c with c|c
  ·omega
  ·exact c _ _ hb
 rw[eT _ _ _ k d];exact h.block k hk c
theorem Crowd.kC {T:TypeId}(h:Crowd w us og dl)(ht:Touch T B w w')(h1:3≠T)(h2:56≠T):Crowd w' us og dl:=by
 obtain⟨b,g,i,k⟩:=h;obtain⟨f,a⟩:=b.heap;have e:=ht.block og b.lt (.inr (fun c fz e=>by rw[a]at e;cases e;exact h2 rfl));(have d:∀j,lH w' ⟨og,j,lI⟩=lH w ⟨og,j,lI⟩:=fun j=>iw e);exact⟨b.kC ht h1 h2,(d _).trans g,(d _).trans i,(d _).trans k⟩
theorem JM {xs:List lN}(h:w.ownsRow base T size v n xs):∃so sc,v=kX so n sc:=by
 rcases h.2 with⟨rfl,rfl⟩|⟨g,a,b,rfl,_⟩
 ·exact⟨lI,0,rfl⟩
 ·exact⟨_,_,rfl⟩
theorem Blk.arr (h:Blk w d (xs++[7,7]))(hn:xs.length+2<=maxLen):Arr w 1 (lJ ⟨d,0,lI⟩) xs.length (xs.length+2) (zi xs):=by
 refine⟨by rw[j9],by omega,hn,fun _=>⟨d,0,rfl,h.lt⟩,?_⟩;intro b o e j v a m u f
 cases e
 (have c:j<xs.length:=by have:=(eA.1 a).1;rwa[j9]at this);rw[pq _ c]at a
 cases a
 match m with
 |0=>have:=h.cell j (by simp;omega);rw[sS c]at this;simp only[ic,ia,eC];rw[this];exact f
 |m+1=>simp[Value.cells]at f
theorem Crowd.get (h:Crowd w us og dl)(hi:i<us.length):∃d,lH w ⟨og,i*3,lI⟩=lJ (hs d (ug us i).dem.length)/\lH w ⟨og,i*3+1,lI⟩=lJ (kW lD (ug us i).wt)/\lH w ⟨og,i*3+2,lI⟩=lJ (kW lD (ug us i).cap)/\Blk w d ((ug us i).dem++[7,7])/\dl[i]?=lJ (hs d (ug us i).dem.length):=by
 obtain⟨⟨m,b,a,n,k⟩,_⟩:=h;obtain⟨d,l,c,e,f,g,j⟩:=k i hi;exact⟨d,(hH w og _ _ _ _ a).trans c,(hH w og _ _ _ _ a).trans e,(hH w og _ _ _ _ a).trans f,g,j⟩
theorem Crowd.len (h:Crowd w us og dl):dl.length=us.length:=h.1.1
theorem Br {ho:Option Addr}{hc:Nat}{xs:List lN}(h:w.ownsRow base T 1 (kX ho n hc) n xs)(hv:xs[i]?=lJ v):∃b,ho=lJ ⟨b,0,lI⟩/\b<w.heap.size/\lH w ⟨b,0+i,lI⟩=lJ v:=by
 have q:=(eA.1 hv).1;have r:=h.1;rcases h.2 with⟨e,k⟩|⟨g,d,a,e,l,c,m,o,p,j⟩
 ·omega
 ·cases e
  refine⟨g,rfl,(ek.1 c).1,?_⟩;rw[eC,hH w g i _ _ _ c,<-eI];(have f:a.toList[i]?=(a.toList.take (n*1))[i]?:=by rw[eH,ed (by omega)]);rw[f,j];exact hv
def Fr (B:Nat)(ao:Option Addr)(cap:Nat):Prop:=(ao=lI->cap=0)/\∀a,ao=lJ a->B<=a.block
def Sli (B:Nat)(w:lM)(v:lN)(m:Nat):Prop:=∃ao n cap,v=kX ao n cap/\Row w ao n cap (zA m)/\Fr B ao cap
theorem Fr.kt (g o cap:Nat):Fr g (lJ ⟨g,o,lI⟩) cap:=⟨fun h=>(by cases h),fun a h=>(by cases h;exact lR)⟩
theorem Fr.mono {C:Nat}(h:Fr B ao cap)(hc:C<=B):Fr C ao cap:=⟨h.1,fun a e=>eh hc (h.2 a e)⟩
theorem ny (hr:Row w ao n cap xs)(hL:yd xs)(hn:n<=60000):Calls prog 83 #[kX ao n cap] w fun e w'=>∃m,m<=n/\xs.take m=zA (val xs).toNat/\e=lF (kX ao m cap)/\w'=w:=by
 have j:=hr.len;have l:=hr.le;have d:=hr.cm;unfold maxLen at d;go_enter func83,ntmps83;go_wp2
 go_loop[3] (fun v=>∃m:Nat,m<=n/\v=kW lD m/\(∀i,m<=i->i<xs.length->lm xs i=0)) (fun v=>(intOf v).toNat)
 case atStart=>exact⟨n,lR,rfl,fun i h1 h2=>by omega⟩
 case round=>
  obtain⟨m,s,rfl,g⟩:=hrel;by_cases k:m=0
  ·subst k;have E:=rU xs 0 hL (by omega) (fun i h1 h2=>g i h1 h2) (.inl rfl);have c:=E;go_wp2;go_ret;exact⟨0,by omega,c,rfl,rfl⟩
  ·obtain⟨b,o,rfl,p⟩:=hr.head (by omega);have h:=hr.cell b o rfl (m-1) (by omega);obtain⟨q,rfl⟩:∃q,m=q+1:=⟨m-1,by omega⟩;simp only[Nat.add_sub_cancel]at h;by_cases a:lm xs q=0
   ·rw[a]at h;go_wp2
    exact⟨⟨q,by omega,rfl,fun i h1 h2=>by
     by_cases e:i=q
     ·rw[e];exact a
     ·exact g i (by omega) h2⟩,by simp[intOf]⟩
   ·(have r:(lm xs q == 0)=lL:=by simpa using a);have E:=rU xs (q+1) hL (by omega) (fun i h1 h2=>g i h1 h2) (.inr a);have c:=E;clear hr;go_wp2;go_ret;exact⟨q+1,by omega,c,rfl,rfl⟩
theorem nN (hr:Row w ao n cap xs)(hn:n<=60000)(hi:i<=60000):Calls prog 82 #[kX ao n cap,kW lD i] w fun e w'=>e=lF (kW lD (lm xs i))/\w'=w:=by
 by_cases h:i<n
 ·obtain⟨b,o,rfl,a⟩:=hr.head (by omega);have c:=hr.cell b o rfl i h;go_enter func82,ntmps82;go_wp2;go_ret;exact⟨rfl,rfl⟩
 ·(have e:lm xs i=0:=by have:=hr.len;unfold lm;rw[ej,eW (by omega)];rfl);rw[e];go_enter func82,ntmps82;go_wp2;go_ret;exact⟨rfl,rfl⟩
variable{bo:Option Addr}{capa m capb x y:Nat}
theorem nt (hr:Row w ao n capa (zA x))(hs:Row w bo m capb (zA y))(hn:n<=60000)(hm:m<=60000):Calls prog 41 #[kX ao n capa,kX bo m capb] w fun e w'=>e=lF (kW lD (zQ x y))/\Below w.heap.size w w':=by
 have f:=hr.len;have g:=hs.len;have o:=JG x;have r:=JG y;rcases Nat.lt_trichotomy n m with h|h|h
 ·(have e:zQ x y = -1:=by have:=pM (qA x) (qA y) (oq y) (by omega);unfold zQ;rw[ed (by omega)]);rw[e];(have A:((n:Int) == (m:Int))=lL:=by rw[eg];omega);go_enter func41,ntmps41;go_wp2;go_ret;exact⟨rfl,eB _ _⟩
 ·subst h;go_enter func41,ntmps41;go_wp2
  go_loopw [5] (fun v wr=>∃k:Nat,k<=n/\v=kW lD ((k:Int)-1)/\(∀j,k<=j->j<n->lm (zA x) j=lm (zA y) j)/\Bl w wr) (fun v _=>(intOf v+1).toNat)
  case atStart=>exact⟨n,lR,rfl,fun j h1 h2=>by omega,eB _ _⟩
  case round=>
   obtain⟨k,O,rfl,l,hB⟩:=hrel;have a:=hB;by_cases L:k=0
   ·subst L;(have e:zQ x y=0:=by have:=tM n f g (fun i hi=>l i (by omega) hi);(have:(x:Int)=y:=by rw[<-o,<-r,this]);unfold zQ;rw[ec (by omega),ed this]);go_wp2;go_ret;exact⟨by rw[e];rfl,a⟩
   ·obtain⟨q,rfl⟩:∃q,k=q+1:=⟨k-1,by omega⟩;obtain⟨u,F,rfl,C⟩:=hr.head (by omega);obtain⟨z,G,rfl,D⟩:=hs.head (by omega);have M:=qs hB (hr.cell u F rfl q (by omega)) C;have N:=qs hB (hs.cell z G rfl q (by omega)) D;(have K:(0:Int)<=((q+1:Nat):Int)-1:=by omega);rcases Int.lt_trichotomy (lm (zA x) q) (lm (zA y) q)with E|c|B
    ·(have e:zQ x y = -1:=by have:=oS _ _ (qA x) (qA y) n f g q (by omega) (fun i h1 h2=>l i (by omega) h2) E;rw[o,r]at this;unfold zQ;rw[ed this]);have b:=e;go_wp2;go_quiet (fail);go_wp2;go_ret;exact⟨by rw[b];rfl,eY a _⟩
    ·(have d:¬ lm (zA x) q<lm (zA y) q:=by omega);(have J:¬ lm (zA y) q<lm (zA x) q:=by omega);have b:=c;go_wp2;go_quiet (fail);go_wp2;go_quiet (fail);go_wp2
     go_roundw
     case rel=>exact⟨q,by omega,by go_num,fun j h1 h2=>(by
      by_cases e:j=q
      ·rw[e];exact b
      ·exact l j (by omega) h2),eY a _⟩
     case measure=>simp[intOf]
    ·(have d:¬ lm (zA x) q<lm (zA y) q:=by omega);(have e:zQ x y=1:=by have:=oS _ _ (qA y) (qA x) n g f q (by omega) (fun i h1 h2=>(l i (by omega) h2).symm) B;rw[o,r]at this;unfold zQ;rw[ec (by omega),ec (by omega)]);have b:=e;go_wp2;go_quiet (fail);go_wp2;go_quiet (fail);go_wp2;go_ret;exact⟨by rw[b];rfl,by first|exact eY a _|exact eY (eY a _) _⟩
 ·(have e:zQ x y=1:=by have:=pM (qA y) (qA x) (oq x) (by omega);unfold zQ;rw[ec (by omega),ec (by omega)]);rw[e];(have A:((n:Int) == (m:Int))=lL:=by rw[eg];omega);go_enter func41,ntmps41;go_wp2;go_ret;exact⟨rfl,eB _ _⟩
def Own (base:Nat)(w:lM)(v:lN)(l:List Int):Prop:=w.ownsRow base 3 1 v l.length (l.map (Value.int lD))
theorem Own.nil (base:Nat)(w:lM):Own base w (kX lI 0 0) []:=⟨rfl,.inl ⟨rfl,rfl⟩⟩
variable{l:List Int}
theorem Own.iP (h:Own base w v l)(hb:Below w.heap.size w w'):Own base w' v l:=by
 obtain⟨d,h⟩:=h;refine⟨d,?_⟩;rcases h with h|⟨g,a,b,e,f,c,i⟩
 ·exact .inl h
 ·exact .inr ⟨g,a,b,e,f,(hb.block g (ek.1 c).1).trans c,i⟩
theorem Own.row (h:Own base w v l):∃ao cap,v=kX ao l.length cap/\Row w ao l.length cap l/\Fr base ao cap:=by
 obtain⟨p,h⟩:=h;rcases h with⟨rfl,h⟩|⟨g,cap,c,rfl,i,d,k,m,q,n⟩
 ·obtain rfl:l=[]:=iq.1 h;exact⟨lI,0,rfl,Row.nil w,fun _=>rfl,fun a h=>by cases h⟩
 ·refine⟨_,_,rfl,⟨rfl,k,m,fun _=>⟨g,0,rfl,(ek.1 d).1⟩,fun b o e _=>(by cases e;exact⟨_,_,d⟩),fun b o e j hj=>?_⟩,(Fr.kt g 0 cap).mono i⟩
  cases e
  rw[eC,hH w g j _ _ _ d];(have f:c.toList[j]?=(c.toList.take (l.length*1))[j]?:=by rw[eH,ed (by omega)]);rw[<-eI,f,n,eD];unfold lm;rw[ej,en hj];rfl
theorem su (w:lM)(hgd:o.guard=lI)(s x:Operand)(hop:o.op=Op.call {callee:=Callee.builtin Builtin.append,args:=#[s,x],argTypes:=#[22,22]})(base:Nat)(v:lN)(l:List Int)(ad:Addr)(m c:Nat)(news:List Int)(hs:a.eval s=v)(hx:a.eval x=kX (lJ ad) m c)(hown:Own base w v l)(hm:news.length=m)(hnews:∀j,j<m->w.cell? (ad.add j)=lJ (kW lD (lm news j)))(hle:l.length+m<=1000000)(hb:base<=w.heap.size)(h:∀v' w',Own base w' v' (l++news)->Below base w w'->wpList prog ops Q rest (a.put o.dst v') w'):wpList prog ops Q (o::rest) a w:=by
 obtain⟨i,B,f,n,p⟩:=iM Tryz.infoInt
 have e:∀k,v.ownBlock=lJ k->base<=k:=by
  intro k r;rcases hown.2 with⟨rfl,_⟩|⟨g,t,y,rfl,b,_⟩
  ·cases r
  ·cases r;exact b
 refine jw w hgd s x _ hop base 3 i (kW lD 0) 1 8 eR B f n p rfl (by decide) v l.length _ hs hown ad m c (news.map (Value.int lD)) hx (by simp[hm]) ?_ ?_ (by unfold maxLen;omega) (by omega) hb ?_
 ·intro j u q;(have d:j<m:=by have:=(eA.1 q).1;simpa[hm]using this);rw[hnews j d,<-q];unfold lm;rw[ej,eD,en (by omega)];rfl
 ·intro u C;obtain⟨z,_,rfl⟩:=jB.1 C;rfl
 ·intro v' w' b A _;refine h v' w' ?_ ((eB base w).grown A hb e);unfold Own;rw[eK,hm,ii];exact b
theorem CJ (w:lM)(hgd:o.guard=lI)(s x:Operand)(hop:o.op=Op.call {callee:=Callee.builtin Builtin.append,args:=#[s,x],argTypes:=#[22,22]})(base:Nat)(v:lN)(l:List Int)(hs:a.eval s=v)(hx:a.eval x=kX lI 0 0)(hown:Own base w v l)(h:wpList prog ops Q rest (a.put o.dst v) w):wpList prog ops Q (o::rest) a w:=by
 obtain⟨i,b,c,d,e⟩:=iM Tryz.infoInt;exact wpList_append_own_none hgd s x _ hop base 3 i 1 eR b v l.length _ hs hown hx h
theorem E6 (l:List Int)(x v:Nat)(hv:v≠0)(h:zA x=l++zA v):zA x=(l++[(v:Int)%10000])++zA (v/10000):=by
 rw[h,mj v hv,Int.natCast_emod];simp
theorem JN (hx:x<=9223372036854775807):Calls prog 35 #[kW lD x] w fun e w'=>∃v,e=lF v/\Sli w.heap.size w' v x/\Below w.heap.size w w':=by
 go_enter func35,ntmps35;go_wp2;have r:(zA x).length<=5:=lP (by omega)
 go_loopw [0,3] (fun v0 v3 wr=>∃(v:Nat) (l:List Int),v<=x/\v0=kW lD v/\l.length+(zA v).length<=5/\(zA x=l++zA v)/\Own w.heap.size wr v3 l/\Bl w wr) (fun v0 _ _=>(intOf v0).toNat)
 case atStart=>exact⟨x,[],lR,rfl,by simp;exact r,rfl,Own.nil _ _,eB _ _⟩
 case round=>
  obtain⟨v,l,A,rfl,z,m,n,hB⟩:=hrel;have h:=hB.size;by_cases d:v=0
  ·(have E:zA x=l:=by rw[m,d,JD,List.append_nil]);obtain⟨u,q,rfl,a,k⟩:=n.row;subst d;go_wp2;go_ret;exact⟨_,rfl,⟨_,_,_,rfl,by rw[E];exact a,k⟩,hB⟩
  ·(have t:(0:Int)<(v:Int):=by omega);have i:=E6 l x v d m;(have s:(zA v).length=(zA (v/10000)).length+1:=by rw[mj v d];simp);go_wp2_with (at_builtin;refine su _ rfl _ _ rfl w.heap.size _ l ⟨wr.heap.size,0,lI⟩ 1 1 [(v:Int)%10000] rfl rfl (n.iP (brf.alloc lR _)) rfl (by intro j y;obtain rfl:j=0:=(by omega);simp[Addr.add,lm]) (by omega) (eh h (by simp)) ?_);intro B w' c b;have f:=((hB.alloc hB.size _).trans b);clear b;go_wp2
   go_roundw
   (case rel=>exact⟨v/10000,_,by omega,by go_num,by simp;omega,i,c,f⟩);case measure=>simp[intOf];omega
theorem nk {z:Nat}(hr:Row w ao n cap xs)(hm:m<=n)(he:xs.take m=zA (val xs).toNat)(hz:(val xs).toNat=z):Row w ao m cap (zA z):=by
 have:=(hr.take m hm)
 rwa[he,hz]at this
theorem AW (o:List Int)(n x y:Nat)(c:Int)(hL:yd o)(hlen:o.length=n+1)(hx:(zA x).length<=n)(hy:(zA y).length<=n)(hc:0<=c)(h:val (o.take (n+1))+10000^(n+1)*c=val ((zA x).take (n+1))+val ((zA y).take (n+1))):(val o).toNat=x+y:=by
 rw[ew (by omega),ew (by omega),ew (by omega),JG,JG]at h;have b:=m6 x;have d:=m6 y;have f:(10000:Nat)^(zA x).length<=10000^n:=ip (by omega) hx;have g:(10000:Nat)^(zA y).length<=10000^n:=ip (by omega) hy;have k:=l4 hL;(have l:((10000^n:Nat):Int)=(10000:Int)^n:=by simp);(have m:x+y<2*10000^n:=by omega);clear b d f g
 have i:c=0:=by
  by_cases e:c=0
  ·exact e
  ·have j:(10000:Int)^(n+1)*1<=10000^(n+1)*c:=eX (by omega) (by exact Int.le_of_lt (Int.pow_pos (by omega)));(have a:(10000:Int)^(n+1)=10000*10000^n:=by rw[Int.pow_succ,jL]);generalize(10000:Int)^(n+1)*c=Z at *;rw[Int.mul_one,a]at j;generalize(10000:Int)^n=P at *;omega
 subst i;omega
theorem H0 (hr:Row w ao n capa (zA x))(hs:Row w bo m capb (zA y))(hn:n<=50000)(hm:m<=50000)(hnm:n<m):Calls prog 141 #[kX ao n capa,kX bo m capb] w fun e w'=>∃v,e=lF v/\Sli w.heap.size w' v (x+y)/\Below w.heap.size w w':=by
 have R:=hr.len;have S:=hs.len;(have B:(n:Int)<(m:Int):=by omega);go_enter func141,ntmps141;go_wp2_with (at_make;refine mm _ rfl _ _ rfl _ _ (m+1) rfl rfl (by omega) (by omega) (by omega) ?_);intro T o h M;go_wp2
 go_loopw [7,8] (fun vc vi wr=>∃(k:Nat) (c:Int) (b:List Int),k<=m+1 /\ vi=kW lD k /\ vc=kW lD c /\ 0<=c /\ c<=1 /\ b.length=m+1 /\ yd b /\
  (val (b.take k)+10000^k*c=val ((zA x).take k)+val ((zA y).take k)) /\ Blk wr w.heap.size b /\ Bl w wr) (fun _ vi _=>m+1-(intOf vi).toNat)
 case atStart=>exact⟨0,0,_,ep _,rfl,rfl,by omega,by omega,by simp,mv _,by simp[Hid,val],o,h⟩
 case round=>
  obtain⟨k,c,b,Q,rfl,rfl,u,J,p,d,g,a,q⟩:=hrel;have K:=a.lt;by_cases C:k<=m
  ·have z:=hr.iP q;have A:=hs.iP q;obtain⟨F,G⟩:=JA (qA x) k;obtain⟨H,I⟩:=JA (qA y) k;have O:=a.cell k (by omega);have P:=a.frozen k;go_wp2_with fail;refine(nN z (by omega) (by omega)).mono ?_;rintro e N ⟨rfl,rfl⟩;go_wp2_with fail;refine(nN A (by omega) (by omega)).mono ?_;rintro e N ⟨rfl,rfl⟩;go_wp2
   go_roundw
   (case rel=>exact⟨k+1,_,_,by omega,by go_num,rfl,by omega,by omega,by simpa using p,lO d k _ (by omega) (by omega),tN b (zA x) (zA y) k c _ (by omega) rfl g,a.set k _,q.setCell lR _⟩);case measure=>simp[intOf];omega
  ·(obtain rfl:k=m+1:=by omega);have i:=AW b m x y c d p (by omega) (by omega) u g;have f:=Blk.row0 a (m+1) (m+1) (by omega) lR (by unfold maxLen;omega);go_wp2_with fail;refine(ny f d (by omega)).mono ?_;rintro e U ⟨j,L,l,rfl,rfl⟩;have t:=nk f L l i;go_wp2;go_ret;exact⟨_,rfl,⟨_,_,_,rfl,t,Fr.kt _ _ _⟩,q⟩
theorem Gb (hr:Row w ao n capa (zA x))(hs:Row w bo m capb (zA y))(hn:n<=50000)(hm:m<=50000)(hnm:m<=n):Calls prog 141 #[kX ao n capa,kX bo m capb] w fun e w'=>∃v,e=lF v/\Sli w.heap.size w' v (x+y)/\Below w.heap.size w w':=by
 have R:=hr.len;have S:=hs.len;(have B:¬ (n:Int)<(m:Int):=by omega);go_enter func141,ntmps141;go_wp2_with (at_make;refine mm _ rfl _ _ rfl _ _ (n+1) rfl rfl (by omega) (by omega) (by omega) ?_);intro T o h M;go_wp2
 go_loopw [7,8] (fun vc vi wr=>∃(k:Nat) (c:Int) (b:List Int),k<=n+1 /\ vi=kW lD k /\ vc=kW lD c /\ 0<=c /\ c<=1 /\ b.length=n+1 /\ yd b /\
  (val (b.take k)+10000^k*c=val ((zA x).take k)+val ((zA y).take k)) /\ Blk wr w.heap.size b /\ Bl w wr) (fun _ vi _=>n+1-(intOf vi).toNat)
 case atStart=>exact⟨0,0,_,ep _,rfl,rfl,by omega,by omega,by simp,mv _,by simp[Hid,val],o,h⟩
 case round=>
  obtain⟨k,c,b,Q,rfl,rfl,u,J,p,d,g,a,q⟩:=hrel;have K:=a.lt;by_cases C:k<=n
  ·have z:=hr.iP q;have A:=hs.iP q;obtain⟨F,G⟩:=JA (qA x) k;obtain⟨H,I⟩:=JA (qA y) k;have O:=a.cell k (by omega);have P:=a.frozen k;go_wp2_with fail;refine(nN z (by omega) (by omega)).mono ?_;rintro e N ⟨rfl,rfl⟩;go_wp2_with fail;refine(nN A (by omega) (by omega)).mono ?_;rintro e N ⟨rfl,rfl⟩;go_wp2
   go_roundw
   (case rel=>exact⟨k+1,_,_,by omega,by go_num,rfl,by omega,by omega,by simpa using p,lO d k _ (by omega) (by omega),tN b (zA x) (zA y) k c _ (by omega) rfl g,a.set k _,q.setCell lR _⟩);case measure=>simp[intOf];omega
  ·(obtain rfl:k=n+1:=by omega);have i:=AW b n x y c d p (by omega) (by omega) u g;have f:=Blk.row0 a (n+1) (n+1) (by omega) lR (by unfold maxLen;omega);go_wp2_with fail;refine(ny f d (by omega)).mono ?_;rintro e U ⟨j,L,l,rfl,rfl⟩;have t:=nk f L l i;go_wp2;go_ret;exact⟨_,rfl,⟨_,_,_,rfl,t,Fr.kt _ _ _⟩,q⟩
theorem Ah (hr:Row w ao n capa (zA x))(hs:Row w bo m capb (zA y))(hn:n<=50000)(hm:m<=50000):Calls prog 141 #[kX ao n capa,kX bo m capb] w fun e w'=>∃v,e=lF v/\Sli w.heap.size w' v (x+y)/\Below w.heap.size w w':=by
 rcases Nat.lt_or_ge n m with h|h
 ·exact H0 hr hs hn hm h
 ·exact Gb hr hs hn hm h
theorem ou (hr:Row w ao n capa (zA x))(hs:Row w bo m capb (zA y))(hn:n<=50000)(hm:m<=50000)(hxy:y<=x):Calls prog 142 #[kX ao n capa,kX bo m capb] w fun e w'=>∃v,e=lF v/\Sli w.heap.size w' v (x-y)/\Below w.heap.size w w':=by
 have I:=hr.len;have T:=hs.len;(have R:m<=n:=by rw[<-I,<-T];exact jAH (by omega));go_enter func142,ntmps142;go_wp2_with (at_make;refine mm _ rfl _ _ rfl _ _ n rfl rfl (by omega) (by omega) (by omega) ?_);intro Y o h S;go_wp2
 go_loopw [6,7,8] (fun vc vi _ wr=>∃(k:Nat) (c:Int) (b:List Int),k<=n /\ vi=kW lD k /\ vc=kW lD c /\ 0<=c /\ c<=1 /\ b.length=n /\ yd b /\
  (val (b.take k)-10000^k*c=val ((zA x).take k)-val ((zA y).take k)) /\ Blk wr w.heap.size b /\ Bl w wr) (fun _ vi _ _=>n-(intOf vi).toNat)
 case atStart=>exact⟨0,0,_,ep _,rfl,rfl,by omega,by omega,by simp,mv _,by simp[Hid,val],o,h⟩
 case round=>
  obtain⟨k,c,b,X,rfl,rfl,A,O,q,d,g,a,r⟩:=hrel;have B:=a.lt;by_cases G:k<n
  ·obtain⟨z,E,rfl,C⟩:=hr.head (by omega);have U:=qs r (hr.cell z E rfl k (by omega)) C;have D:=hs.iP r;obtain⟨K,L⟩:=JA (qA x) k;obtain⟨M,N⟩:=JA (qA y) k;(have Q:(k:Int)<(n:Int):=by omega);by_cases H:lm (zA x) k-lm (zA y) k-c<0
   all_goals
    have V:=a.cell k (by omega)
    have W:=a.frozen k
    go_wp2
    go_quiet ((go_at_call 82;refine Calls.quiet_of_same (nN (D.iP (eY brf _)) (by omega) (by omega))))
    go_wp2
    go_roundw
    case rel=>
     exact⟨k+1,_,_,by omega,by go_num,rfl,by omega,by omega,by simpa using q,lO d k _ (by omega) (by omega),Bh b (zA x) (zA y) k c _ _ (by omega) (by omega) g,(a.iP (eY brf _) B).set k _,(eY r _).setCell lR _⟩
    case measure=>simp[intOf];omega
  ·(obtain rfl:k=n:=by omega);have i:=BI b k x y c d q I (by omega) A (by omega) g;have f:=Blk.row0 a k k (by omega) lR (by unfold maxLen;omega);go_wp2_with fail;refine(ny f d (by omega)).mono ?_;rintro e Z ⟨j,P,l,rfl,rfl⟩;have u:=nk f P l i;go_wp2;go_ret;exact⟨_,rfl,⟨_,_,_,rfl,u,Fr.kt _ _ _⟩,r⟩
theorem Bz (xs:List Int)(j:Nat)(h:xs.length<=j):lm xs j=0:=by
 unfold lm;rw[ej,eW h];rfl
theorem JK (hr:Row w ao n capa (zA x))(hs:Row w bo m capb (zA y))(hn:n<=20000)(hm:m<=20000):Calls prog 37 #[kX ao n capa,kX bo m capb] w fun e w'=>∃v,e=lF v/\Sli w.heap.size w' v (x*y)/\Below w.heap.size w w':=by
 have l1:=hr.len;have l2:=hs.len;have V:=hid (hr);have Z:=hid (hs);clear hr hs;go_enter func37,ntmps37;go_wp2_with (at_make;refine mm _ rfl _ _ rfl _ _ (n+m+1) rfl rfl (by omega) (by omega) (by omega) ?_);intro w1 H C aj;have K:=hid (C);have L:=hid (H);clear C H;go_wp2
 go_loopw [6] (fun vi wr=>∃(k:Nat) (f:List Int),k<=n /\ vi=kW lD k /\ f.length=n+m+1 /\ Hid (yd f) /\
  Hid (val f=val ((zA x).take k)*(y:Int)) /\ Hid (∀t,k+m<=t -> lm f t=0) /\ Hid (Blk wr w.heap.size f) /\ Hid (Bl w wr)) (fun vi _=>n-(intOf vi).toNat)
 case atStart=>exact⟨0,_,ep _,rfl,by simp,mv _,by simp[Hid,val,qC],fun t _=>ot _ t,L,K⟩
 case round=>
  obtain⟨k,f,hk,rfl,S,s,B,r,u,W⟩:=hrel;by_cases Y:k<n
  ·obtain⟨N,U,rfl,R⟩:=V.head (by omega);obtain⟨ac,ad⟩:=JA (qA x) k;go_wp2
   go_loopw [7,8] (fun vc vj wq=>∃(j:Nat) (c:Int) (o:List Int),j<=m+1 /\ (j=m+1 -> c=0) /\ vj=kW lD j /\ vc=kW lD c /\ 0<=c /\ c<10000 /\ o.length=n+m+1 /\ Hid (yd o) /\
    Hid (val o+10000^(k+j)*c=val ((zA x).take k)*(y:Int)+10000^k*(lm (zA x) k*val ((zA y).take j))) /\ Hid (j<=m -> ∀t,k+m<=t -> lm o t=0) /\ Hid (∀t,k+m+1<=t -> lm o t=0) /\ Hid (Blk wq w.heap.size o) /\ Hid (Bl w wq)) (fun _ vj _=>m+1-(intOf vj).toNat)
   case atStart=>exact⟨0,0,f,ep _,fun _=>rfl,rfl,rfl,by omega,by omega,S,s,by simp[Hid,val,B.out],fun _=>r,fun t ht=>r t (by omega),u,W⟩
   case round=>
    obtain⟨j,c,o,X,F,rfl,rfl,O,P,q,b,g,i,d,a,l⟩:=hrel;have z:=a.lt;by_cases af:j<m\/(j=m/\0<c)
    ·have d1:=qs l (V.cell N U rfl k (by omega)) R;have I:=hid (Z.iP l);have g1:=a.cell (k+j) (by omega);have g2:=a.frozen (k+j);obtain⟨p1,p2,p3,p4⟩:=Ai (lm o (k+j)) (lm (zA x) k) (lm (zA y) j) c (JA b _) (JA (qA x) _) (JA (qA y) _) ⟨O,P⟩;obtain⟨aa,ab⟩:=JA b (k+j);(have ah:(k:Int)<(n:Int):=by omega);(have ai:(k:Int)+(j:Int)<((n+m+1:Nat):Int):=by omega);by_cases ag:j<m
     ·(have G:(j:Int)<(m:Int):=by omega);go_wp2;go_quiet ((go_at_call 82;refine Calls.quiet_of_same (nN (I.iP (eY brf _)) (by omega) (by omega))));go_wp2
      go_roundw
      (case rel=>exact⟨j+1,_,_,by omega,fun h=>by omega,by go_num,rfl,by omega,by omega,by simpa using q,lO b (k+j) _ (by omega) (by omega),tL o (zA y) k j (lm (zA x) k) c _ _ (by omega) rfl g,fun _ t ht=>(mL o (k+j) t _ (by omega)).trans (i (by omega) t ht),fun t ht=>(mL o (k+j) t _ (by omega)).trans (d t ht),(a.iP (eY brf _) z).set (k+j) _,(eY l _).setCell lR _⟩);case measure=>simp[intOf];omega
     ·(have G:¬ (j:Int)<(m:Int):=by omega);(have ae:0<c:=by omega);(have T:Hid (lm o (k+j)+lm (zA x) k*lm (zA y) j+c=c):=by show _=_;rw[Bz (zA y) j (by omega),i.out (by omega) _ (by omega)];omega);go_wp2;go_quiet ((go_at_call 82;refine Calls.quiet_of_same (nN (I.iP (eY brf _)) (by omega) (by omega))));go_wp2
      go_roundw
      (case rel=>exact⟨j+1,_,_,by omega,fun h=>by rw[T.out];omega,by go_num,rfl,by omega,by omega,by simpa using q,lO b (k+j) _ (by omega) (by omega),tL o (zA y) k j (lm (zA x) k) c _ _ (by omega) rfl g,fun h=>by omega,fun t ht=>(mL o (k+j) t _ (by omega)).trans (d t ht),(a.iP (eY brf _) z).set (k+j) _,(eY l _).setCell lR _⟩);case measure=>simp[intOf];omega
    ·have G:¬ (j:Int)<(m:Int):=by omega
     have Q:c=0:=by
      by_cases h:j=m+1
      ·exact F h
      ·omega
     subst Q;(have J:val ((zA y).take j)=(y:Int):=by rw[ew (by omega),JG]);(have hE:Hid (val o=val ((zA x).take (k+1))*(y:Int)):=by show _=_;have h:=g.out;rw[J,jK,Int.add_zero]at h;rw[h,mp,Int.add_mul,Int.mul_assoc]);clear J F;go_wp2
     go_roundw
     (case rel=>exact⟨k+1,_,by omega,by go_num,q,b,hE,fun t ht=>d t (by omega),a,l⟩);case measure=>simp[intOf];omega
  ·(obtain rfl:k=n:=by omega);(have D:Hid ((val f).toNat=x*y):=by unfold Hid;rw[B.out,ew (by omega),JG];(have:(x:Int)*(y:Int)=((x*y:Nat):Int):=by simp);omega);have A:=hid (Blk.row0 u (k+m+1) (k+m+1) (by omega) lR (by unfold maxLen;omega));go_wp2_with fail;refine(ny A s (by omega)).mono ?_;rintro e w4 ⟨j,X,E,rfl,rfl⟩;have M:=hid (nk A X E D);clear E;go_wp2;go_ret;exact⟨_,rfl,⟨_,_,_,rfl,M,Fr.kt _ _ _⟩,W⟩
def evB (x:Nat):Bool:=decide (x%2=0)
theorem BD (x:Nat):lm (zA x) 0=((x%10000:Nat):Int):=by
 by_cases h:x=0
 ·subst h;rfl
 ·rw[mj x h];rfl
theorem my (hr:Row w ao n cap (zA x))(hn:n<=60000):Calls prog 143 #[kX ao n cap] w fun e w'=>e=lF (kZ (evB x))/\w'=w:=by
 have a:=BD x;(have d:0<=lm (zA x) 0:=by omega);(have c:evB x=(lm (zA x) 0%2 == 0):=by show _=_;unfold evB;rw[jz,iG,jo,a];omega);rw[c];clear a;go_enter func143,ntmps143;go_wp2_with fail;refine(nN (i:=0) (xs:=zA x) hr (by omega) (by omega)).mono ?_;rintro e f ⟨rfl,rfl⟩;go_wp2;go_ret;exact⟨rfl,rfl⟩
theorem pZ (xs:List Int)(k:Nat)(h:k<xs.length):xs.drop k=lm xs k::xs.drop (k+1):=by
 rw[js h];unfold lm;rw[ej,en h];rfl
theorem Bd (xs:List Int)(k:Nat)(v:Int)(h:k<xs.length):(xs.set k v).drop k=v::xs.drop (k+1):=by
 rw[pZ _ k (by simpa using h)];congr 1
 ·unfold lm;simp[h]
 ·rw[List.drop_set_of_lt (by omega)]
theorem Gj (o A:List Int)(k:Nat)(r v:Int)(hk:k<o.length)(hA:k<A.length)(hv:v=r*10000+lm A k)(h:2*val (o.drop (k+1))+r=val (A.drop (k+1))):2*val ((o.set k (v/2)).drop k)+v%2=val (A.drop k):=by
 rw[Bd o k _ hk,pZ A k hA,val,val];omega
theorem oX (hr:Row w ao n capa (zA x))(hn:n<=50000):Calls prog 144 #[kX ao n capa] w fun e w'=>∃v,e=lF v/\Sli w.heap.size w' v (x/2)/\Below w.heap.size w w':=by
 have P:=hr.len;go_enter func144,ntmps144;go_wp2_with (at_make;refine mm _ rfl _ _ rfl _ _ n rfl rfl (by omega) (by omega) (by omega) ?_);intro Q m g K;go_wp2
 go_loopw [4,5] (fun vr vi wr=>∃(k:Nat) (r:Int) (a:List Int),k<=n /\ vi=kW lD ((k:Int)-1) /\ vr=kW lD r /\ 0<=r /\ r<=1 /\ a.length=n /\ yd a /\
  (2*val (a.drop k)+r=val ((zA x).drop k)) /\ Blk wr w.heap.size a /\ Bl w wr) (fun _ vi _=>(intOf vi+1).toNat)
 case atStart=>exact⟨n,0,_,lR,rfl,rfl,by omega,by omega,by simp,mv _,by show _=_;rw[jP (by simp),jP (by omega)];rfl,m,g⟩
 case round=>
  obtain⟨k,r,a,O,rfl,rfl,I,J,A,c,f,b,y⟩:=hrel;by_cases F:k=0
  ·subst F;(have i:(val a).toNat=x/2:=by show _=_;have h:=f;rw[jF,jF,JG]at h;omega);have d:=Blk.row0 b n n (by omega) lR (by unfold maxLen;omega);go_wp2_with fail;refine(ny d c (by omega)).mono ?_;rintro e R ⟨j,G,l,rfl,rfl⟩;have t:=nk d G l i;go_wp2;go_ret;exact⟨_,rfl,⟨_,_,_,rfl,t,Fr.kt _ _ _⟩,y⟩
  ·obtain⟨q,rfl⟩:∃q,k=q+1:=⟨k-1,by omega⟩;obtain⟨u,B,rfl,z⟩:=hr.head (by omega);have L:=qs y (hr.cell u B rfl q (by omega)) z;obtain⟨D,E⟩:=JA (qA x) q;have M:=b.cell q (by omega);have N:=b.frozen q;(have H:(0:Int)<=((q+1:Nat):Int)-1:=by omega);go_wp2
   go_roundw
   (case rel=>exact⟨q,_,_,by omega,by go_num,rfl,by omega,by omega,by simpa using A,lO c q _ (by omega) (by omega),Gj a (zA x) q r _ (by omega) (by omega) rfl f,b.set q _,y.setCell lR _⟩);case measure=>simp[intOf]
theorem Er (a b lo hi:Nat)(h1:lo*b<=a)(h2:a<hi*b)(h3:lo<hi)(h4:hi<=lo+1):lo=a/b:=by
 (obtain rfl:hi=lo+1:=by omega);rw[Nat.add_mul]at h2;exact(tr a b lo (a-lo*b) (by omega) (by omega)).1
theorem Ib (x y:Nat)(h:y<x):¬ zQ x y<=0:=by rw[BA x y h];omega
theorem wd (hr:Row w ao n capa (zA x))(hs:Row w bo m capb (zA y))(hn:n<=15000)(hm:m<=15000)(hxy:x<10000*y)(Q:Nat)(hQ:Q=x/y):Calls prog 145 #[kX ao n capa,kX bo m capb] w fun e w'=>e=lF (kW lD Q)/\Below w.heap.size w w':=by
 have l2:=hs.len;have U:=hid hQ;clear hQ;go_enter func145,ntmps145;go_wp2
 go_loopw [5,6] (fun vl vh wr=>∃(c b:Nat),c<b/\b<=10000/\vl=kW lD c/\vh=kW lD b/\Hid (c*y<=x)/\Hid (x<b*y)/\Hid (Bl w wr)) (fun vl vh _=>(intOf vh-intOf vl).toNat)
 case atStart=>exact⟨0,10000,by omega,lR,rfl,rfl,by show _<=_;omega,hxy,eB _ _⟩
 case round=>
  obtain⟨c,b,Z,h4,rfl,rfl,P,R,z⟩:=hrel;by_cases B:b<=c+1
  ·have E:=hid (Er x y c b P R Z B);(have ac:¬ (1:Int)<(b:Int)-(c:Int):=by omega);go_wp2;go_ret;exact⟨by rw[U.out,<-E.out];rfl,z⟩
  ·(have aa:(1:Int)<(b:Int) - (c:Int):=by omega);obtain ⟨a,D,L,M⟩:∃ a:Nat,((c:Int)+(b:Int)) / 2=(a:Int)/\c<a/\a<b:=⟨(c+b) / 2,by omega,by omega,by omega⟩;have ab:(zA a).length<=1:=lP (by omega);have N:=hr.iP z;have O:=hs.iP z;go_wp2_with fail;rw[D];refine (JN (by omega)).mono ?_;rintro e w2 ⟨v,rfl,⟨X,p,t,rfl,k,_⟩,f⟩;have S:=k.len;have F:=N.iP f;have H:=O.iP f;have o:=et z f;clear f;go_wp2_with fail;refine (JK H k (by omega) (by omega)).mono ?_;rintro e w3 ⟨v,rfl,⟨Y,q,u,rfl,l,_⟩,h⟩;have T:=l.len;have ad:=JE y a;have G:=F.iP h;have r:=et o h;clear h;go_wp2_with fail;refine (nt l G (by omega) (by omega)).mono ?_;rintro e w4 ⟨rfl,A⟩;have s:=et r A;clear A;obtain ⟨c0,c1⟩:=qk ((y*a:Nat):Int) (x:Int);have j:=BJ (y*a) x;have i:=Ib (y*a) x;generalize zQ ((y*a:Nat):Int) (x:Int)=C at *;by_cases g:y*a<=x
   ·have hc:=j g;have d:=hid g;clear g j i;go_wp2
    go_roundw
    (case rel=>exact⟨a,b,M,h4,rfl,rfl,by show _<=_;rw[jI];exact d,R,s⟩);case measure=>simp[intOf];omega
   ·have hc:=i (by omega);have d:=hid (show x<a*y by rw[jI];omega);clear g j i;go_wp2
    go_roundw
    (case rel=>exact⟨c,a,L,by omega,rfl,rfl,P,d,s⟩);case measure=>simp[intOf];omega
end Go.Proofs.YtigokanoflkinaaGreatDoor
