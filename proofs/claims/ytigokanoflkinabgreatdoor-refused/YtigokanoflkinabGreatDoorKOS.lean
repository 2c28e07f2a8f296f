/- KOps, KScr, joined. -/
import Derived.ProofKit
import Derived.Deep.Strs
import Derived.OpenShut
import Derived.Test.YtigokanoflkinabGreatDoorBkTV
namespace Go.Proofs.YtigokanoflkinabGreatDoor
set_option linter.unusedSimpArgs false
set_option linter.unusedVariables false
open Go.RowKit Por Go.ChangeShapes Go.WideShapes
theorem Tryz.laidOut:laidOutB Tryz.prog=true:=by kernel_rfl
theorem Tryz.cellsInt:Tryz.prog.cellsOf 3=1:=by kernel_rfl
theorem Tryz.cellsInts:Tryz.prog.cellsOf 28=1:=by kernel_rfl
theorem jEZ {w:World}{a:Addr}{v:Value}(h:w.cell? a=some v):a=⟨a.block,a.off,none⟩:=by
 obtain ⟨b,o,s⟩:=a;unfold World.cell? at h
 cases s with
 | none=>rfl
 | some x=>simp only[Option.isSome_some,if_true] at h;split at h <;> cases h
theorem jKX {H:Type}{enc:TypeId×Value->H}{W:World}{sp:Nat->Bool}{hd:Bool}{fuel:Nat}{cs:List Value}{x:DataW H×List MemPlace}(h:DataW.trod enc Tryz.prog W 0 sp hd fuel 28 cs=some x):∃ ao n cap xs,cs = [.slice ao n cap]/\Arr W 1 ao n cap (zg xs):=by
 rcases open_ints Tryz.underlying28 Tryz.underlying3 Tryz.cellsInt h with ⟨f,t⟩ | ⟨a,d,cap,m,f,_,q,r,w,t,c,s⟩
 ·exact ⟨none,0,0,[],f,Arr.nil _ _⟩
 ·(have y:d<=m.length:=by rw[w];split <;> omega);refine ⟨some a,d,cap,m.take d,f,⟨by rw[jAG,List.length_take];omega,q,r,fun h0=>?_,?_⟩⟩
  ·have g:=c 0 (by omega);(have e:a.add 0=a:=by unfold Addr.add;simp);rw[e] at g;have hs:=jEZ g;exact ⟨a.block,a.off,by rw[<- hs],World.block_lt_of_cell? W a g⟩
  ·intro b o e i v k j u l
   cases e
   (have p:i<d:=by have:=(List.getElem?_eq_some_iff.1 k).1;rw[jAG,List.length_take] at this;omega);have g:=c i (by omega);rw[add_plain] at g;unfold zg at k;rw[List.getElem?_map,List.getElem?_take,if_pos p,List.getElem?_eq_getElem (by omega)] at k
   cases k
   match j with
   | 0=>rw[Nat.mul_one,Nat.add_zero,g,<- l];rw[List.getD_eq_getElem?_getD,List.getElem?_eq_getElem (by omega)];rfl
   | j+1=>simp[Value.cells] at l
theorem three {α:Type}{l:List α}(h:l.length=3):∃ a b c,l = [a,b,c]:=by
 match l,h with
 | [a,b,c],_=>exact ⟨a,b,c,rfl⟩
theorem jCN {zs:List Int}{n i:Nat}(h:i<n):lm (zs.take n) i=zs[i]?.getD 0:=by
 unfold lm;rw[List.getD_eq_getElem?_getD,List.getElem?_take,if_pos h]
def WB {H:Type}(t:TypeId)(d:DataW H):Prop:=∀ z∈d.weights Tryz.prog t,z<=reachBytes
theorem jFn {H:Type}{ts:List TypeId}{ds:List (DataW H)}(h:(DataW.weightsEach Tryz.prog ts ds).all (·<=reachBytes)=true):∀ z∈DataW.weightsEach Tryz.prog ts ds,z<=reachBytes:=by
 rw[List.all_eq_true] at h;exact fun z hz=>of_decide_eq_true (h z hz)
theorem jNM {H:Type}{e:TypeId}{d:DataW H}{l:List (DataW H)}(h:d∈l):∀ z∈d.weights Tryz.prog e,z∈DataW.weightsAll Tryz.prog e l:=by
 induction l with
 | nil=>cases h
 | cons x r ih=>
  intro z a;simp only[DataW.weightsAll,List.mem_append];rcases List.mem_cons.1 h with e | e
  ·subst e;exact Or.inl a
  ·exact Or.inr (ih e z a)
theorem Tryz.bytesInt:Tryz.prog.bytesOf 3=8:=by kernel_rfl
theorem jG0 {H:Type}{enc:TypeId×Value->H}{W:World}{sp:Nat->Bool}{hd:Bool}{fuel:Nat}{cs:List Value}{x:DataW H×List MemPlace}(h:DataW.trod enc Tryz.prog W 0 sp hd fuel 28 cs=some x):∃ ao n cap xs,cs = [.slice ao n cap]/\Arr W 1 ao n cap (zg xs)/\(WB 28 x.1->n*8<=reachBytes):=by
 obtain ⟨ao,n,cap,xs,c,j⟩:=jKX h;refine ⟨ao,n,cap,xs,c,j,fun hw=>?_⟩;rcases open_ints Tryz.underlying28 Tryz.underlying3 Tryz.cellsInt h with ⟨b,f⟩ | ⟨a,p,e,g,b,_,q,r,m,f,d,l⟩
 ·rw[c] at b;cases b;unfold reachBytes;omega
 ·rw[c] at b;cases b;(have o:n<=g.length:=by rw[m];split <;> omega);rw[f] at hw;(have i:(lits (H:=H) .i64 (g.take n)).length=n:=by simp[lits];omega);unfold WB at hw;simp only[DataW.weights,Tryz.underlying28,Tryz.bytesInt] at hw;have k:=hw _ (List.mem_cons_self);rw[i] at k;omega
def og (os:List OpV)(i:Nat):OpV:=os.getD i ⟨0,0,0,0,[],false⟩
abbrev opcells (o:OpV)(da:Option Addr)(dn dc:Nat):List Value:=[.int .i64 o.kind,.int .i64 o.a,.int .i64 o.b,.int .i64 o.c,.slice da dn dc,.bool o.oth]
structure Scr (w:World)(ao:Option Addr)(n cap:Nat)(os:List OpV):Prop where
  len:os.length=n
  le:n<=cap
  cm:cap<=maxLen
  cell:∀ i,i<n->∃ b o da dn dc,ao=some ⟨b,o,none⟩/\b<w.heap.size/\(∀ j v,(opcells (og os i) da dn dc)[j]? = some v->w.cell? ⟨b,o+(i*6+j),none⟩=some v)/\Arr w 1 da dn dc (zg (og os i).l)/\OpI4 (og os i)
theorem Scr.below {w w':World} {ao:Option Addr} {n cap:Nat} {os:List OpV} (h:Scr w ao n cap os) (hb:Below w.heap.size w w'):Scr w' ao n cap os:=
  ⟨h.len,h.le,h.cm,fun i hi=>by
    obtain ⟨b,o,da,dn,dc,h1,h2,h3,h4,h5⟩:=h.cell i hi
    exact ⟨b,o,da,dn,dc,h1,Nat.lt_of_lt_of_le h2 hb.size,fun j v hv=>(hb.cell (p:=⟨b,_,none⟩) h2).trans (h3 j v hv),h4.below hb,h5⟩⟩
theorem Tryz.cellsOp:Tryz.prog.cellsOf 30=6:=by kernel_rfl
theorem Tryz.cellsBool:Tryz.prog.cellsOf 4=1:=by kernel_rfl
theorem jGT {H:Type}{enc:TypeId×Value->H}{P:Program}{w:World}{base:Nat}{spare:Nat->Bool}{held:Bool}{t:TypeId}{f0 f1 f2 f3 f4 f5:Field}{fuel:Nat}{cs:List Value}{x:DataW H×List MemPlace}(ht:P.underlying t=some (.struct #[f0,f1,f2,f3,f4,f5]))(h:DataW.trod enc P w base spare held fuel t cs=some x):∃ y0 y1 y2 y3 y4 y5 n,cs.length=P.cellsOf t/\x.1 = .agg [y0.1,y1.1,y2.1,y3.1,y4.1,y5.1]/\DataW.trod enc P w base spare held n f0.type ((cs.drop f0.offset).take (P.cellsOf f0.type))=some y0/\DataW.trod enc P w base spare held n f1.type ((cs.drop f1.offset).take (P.cellsOf f1.type))=some y1/\DataW.trod enc P w base spare held n f2.type ((cs.drop f2.offset).take (P.cellsOf f2.type))=some y2/\DataW.trod enc P w base spare held n f3.type ((cs.drop f3.offset).take (P.cellsOf f3.type))=some y3/\DataW.trod enc P w base spare held n f4.type ((cs.drop f4.offset).take (P.cellsOf f4.type))=some y4/\DataW.trod enc P w base spare held n f5.type ((cs.drop f5.offset).take (P.cellsOf f5.type))=some y5:=by
 obtain ⟨d,n,_,rfl,c,b,a⟩:=DataW.trod_struct ht h
 match d,b with
 | [y0,y1,y2,y3,y4,y5],_=>exact ⟨y0,y1,y2,y3,y4,y5,n,c,by simp,by simpa using a 0 f0 rfl,by simpa using a 1 f1 rfl,by simpa using a 2 f2 rfl,by simpa using a 3 f3 rfl,by simpa using a 4 f4 rfl,by simpa using a 5 f5 rfl⟩
theorem six {α:Type}{l:List α}(h:l.length=6):∃ a b c d e f,l = [a,b,c,d,e,f]:=by
 match l,h with
 | [a,b,c,d,e,f],_=>exact ⟨a,b,c,d,e,f,rfl⟩
theorem jFu {x:Int}(h:(Lit.int .i64 x).wf=true):In64 x:=by
 simp only[Lit.wf,Bool.and_eq_true,decide_eq_true_eq] at h;exact h
theorem Tryz.bytesOp:Tryz.prog.bytesOf 30=64:=by kernel_rfl
set_option maxRecDepth 100000 in
theorem jJX {H:Type}{enc:TypeId×Value->H}{W:World}{sp:Nat->Bool}{hd:Bool}{fuel:Nat}{cs:List Value}{x:DataW H×List MemPlace}(h:DataW.trod enc Tryz.prog W 0 sp hd fuel 30 cs=some x):∃ (o:OpV) (da:Option Addr) (dn dc:Nat),cs=opcells o da dn dc/\Arr W 1 da dn dc (zg o.l)/\OpI4 o/\(WB 30 x.1->o.l.length*8<=reachBytes):=by
 obtain ⟨U,V,X,Y,Z,y5,m,D,L,u,v,w,y,A,B⟩:=jGT Tryz.underlying30 h;rw[Tryz.cellsOp] at D;obtain ⟨a,b,c,d,e,f,rfl⟩:=six D;have G:Tryz.prog.cellsOf 28=1:=Tryz.cellsInts;have I:Tryz.prog.cellsOf 3=1:=Tryz.cellsInt;have J:Tryz.prog.cellsOf 4=1:=Tryz.cellsBool;simp only[G,I,J,List.drop,List.take] at u v w y A B;obtain ⟨M,p,_,Q⟩:=DataW.trod_int Tryz.underlying3 u;obtain ⟨N,r,_,R⟩:=DataW.trod_int Tryz.underlying3 v;obtain ⟨O,s,_,S⟩:=DataW.trod_int Tryz.underlying3 w;obtain ⟨P,t,_,T⟩:=DataW.trod_int Tryz.underlying3 y;obtain ⟨F,n,i,E,j,C,k⟩:=jG0 A;obtain ⟨q,K,_⟩:=DataW.trod_bool Tryz.underlying4 B
 cases p;cases r;cases s;cases t;cases j;cases K
 refine ⟨⟨M,N,O,P,E,q⟩,F,n,i,rfl,C,⟨jFu Q,jFu R,jFu S,jFu T⟩,fun hw=>?_⟩;have g:=C.len;rw[jAG] at g;show E.length*8<=_;rw[g];rw[L] at hw;refine k (fun z hz=>hw z ?_);simp only[DataW.weights,Tryz.underlying30];show z∈DataW.weightsEach Tryz.prog [3,3,3,3,28,4] _;simp only[DataW.weightsEach,List.mem_append];exact Or.inr (Or.inr (Or.inr (Or.inr (Or.inl hz))))
theorem jC1 {H:Type}{enc:TypeId×Value->H}{W:World}{sp:Nat->Bool}{hd:Bool}{fuel:Nat}{cs:List Value}{x:DataW H×List MemPlace}(h:DataW.trod enc Tryz.prog W 0 sp hd fuel 22 cs=some x):∃ ao n cap os,cs = [.slice ao n cap]/\Scr W ao n cap os/\(WB 22 x.1->n*64<=reachBytes)/\(WB 22 x.1->∀ i,i<n->(og os i).l.length*8<=reachBytes):=by
 classical
 rcases Go.Deep.open_slice Tryz.underlying22 h with ⟨g,I⟩ | ⟨a,b,cap,m,k,D,S,g,_,O,Q,G,I,p⟩
 ·exact ⟨none,0,0,[],g,⟨rfl,Nat.le_refl _,Nat.zero_le _,fun i hi=>absurd hi (Nat.not_lt_zero i)⟩,fun _=>(by unfold reachBytes;omega),fun _ i hi=>absurd hi (Nat.not_lt_zero i)⟩
 ·(have P:b<=m:=by rw[G];split <;> omega);rw[Tryz.cellsOp] at p;have r:∀ i,i<b->∃ (o:OpV) (ao:Option Addr) (n c:Nat),(∀ j w,(opcells o ao n c)[j]? = some w->W.cell? ((a.add (i*6)).add j)=some w)/\Arr W 1 ao n c (zg o.l)/\OpI4 o/\(WB 30 (D i)->o.l.length*8<=reachBytes):=fun i hi=>by obtain ⟨M,s,J⟩:=p i (by omega);obtain ⟨o,ao,n,c,rfl,B,F,f⟩:=jJX J;obtain ⟨_,_,u⟩:=World.cells?_some s;refine ⟨o,ao,n,c,fun j w hj=>?_,B,F,f⟩;(have E:j<6:=by simpa using (List.getElem?_eq_some_iff.1 hj).1);rw[u j E];exact hj
  let U:Nat->OpV:=fun i=>if hi:i<b then (r i hi).choose else ⟨0,0,0,0,[],false⟩
  (have A:∀ i,i<b->∃ (ao:Option Addr) (n c:Nat),(∀ j w,(opcells (U i) ao n c)[j]? = some w->W.cell? ((a.add (i*6)).add j)=some w)/\Arr W 1 ao n c (zg (U i).l)/\OpI4 (U i)/\(WB 30 (D i)->(U i).l.length*8<=reachBytes):=fun i hi=>by simp only[U];rw[dif_pos hi];exact (r i hi).choose_spec);(have q:∀ i,i<b->og ((List.range b).map U) i=U i:=fun i hi=>by unfold og;rw[List.getD_eq_getElem?_getD,List.getElem?_map,List.getElem?_range hi];rfl);refine ⟨some a,b,cap,(List.range b).map U,g,⟨by simp,O,Q,fun i hi=>?_⟩,fun f=>?_,fun f i hi=>?_⟩
  ·obtain ⟨ao,n,c,u,B,R,_⟩:=A i hi;rw[q i hi];have s:=u 0 _ rfl;have J:=jEZ s;(have t:a=⟨a.block,a.off,none⟩:=by obtain ⟨_,_,_,C,_⟩:=A 0 (by omega);have L:=C 0 _ rfl;(have e:(a.add (0*6)).add 0=a:=by unfold Addr.add;simp);rw[e] at L;exact jEZ L);(have y:(a.add (i*6)).block=a.block:=by rw[t,add_plain]);refine ⟨a.block,a.off,ao,n,c,by rw[<- t],?_,fun j v hv=>?_,B,R⟩
   ·have K:=World.block_lt_of_cell? W _ s;rw[t,add_plain,add_plain] at K;exact K
   ·have y:=u j v hv;rw[t,add_plain,add_plain,Nat.add_assoc] at y;exact y
  ·rw[I] at f;unfold WB at f;simp only[DataW.weights,Tryz.underlying22,Tryz.bytesOp] at f;have N:=f _ (List.mem_cons_self);simp only[List.length_map,List.length_range] at N;omega
  ·obtain ⟨ao,n,c,_,_,_,F⟩:=A i hi;rw[q i hi];refine F (fun z hz=>f z ?_);rw[I];simp only[DataW.weights,Tryz.underlying22,List.mem_cons,List.mem_append];exact Or.inr (Or.inl (jNM (d:=D i) (List.mem_map.2 ⟨i,List.mem_range.2 hi,rfl⟩) z hz))
end Go.Proofs.YtigokanoflkinabGreatDoor
