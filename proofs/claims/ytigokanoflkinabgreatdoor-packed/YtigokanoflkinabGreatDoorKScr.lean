/- A script that is handed in. -/
import Derived.Test.YtigokanoflkinabGreatDoorKOps
import Derived.Test.YtigokanoflkinabGreatDoorBkTV
namespace Go.Proofs.YtigokanoflkinabGreatDoor
set_option linter.unusedSimpArgs false
set_option linter.unusedVariables false
open Go.RowKit Por Go.ChangeShapes Go.WideShapes
def og (os:List OpV)(i:Nat):OpV:=os.getD i ⟨0,0,0,0,[],false⟩
abbrev opcells (o:OpV)(da:Option Addr)(dn dc:Nat):List Value:=[.int .i64 o.kind,.int .i64 o.a,.int .i64 o.b,.int .i64 o.c,.slice da dn dc,.bool o.oth]
structure Scr (w:World)(ao:Option Addr)(n cap:Nat)(os:List OpV):Prop where
  len:os.length=n
  le:n≤cap
  cm:cap≤maxLen
  cell:∀ i,i<n→∃ b o da dn dc,ao=some ⟨b,o,none⟩∧b<w.heap.size∧(∀ j v,(opcells (og os i) da dn dc)[j]? = some v→w.cell? ⟨b,o+(i*6+j),none⟩=some v)∧Arr w 1 da dn dc (ints (og os i).l)∧OpI4 (og os i)
theorem Scr.below {w w':World} {ao:Option Addr} {n cap:Nat} {os:List OpV} (h:Scr w ao n cap os) (hb:Below w.heap.size w w'):Scr w' ao n cap os:=
  ⟨h.len,h.le,h.cm,fun i hi=>by
    obtain ⟨b,o,da,dn,dc,h1,h2,h3,h4,h5⟩:=h.cell i hi
    exact ⟨b,o,da,dn,dc,h1,Nat.lt_of_lt_of_le h2 hb.size,fun j v hv=>(hb.cell (p:=⟨b,_,none⟩) h2).trans (h3 j v hv),h4.below hb,h5⟩⟩
theorem Tryz.cellsOp:Tryz.prog.cellsOf 30=6:=by kernel_rfl
theorem Tryz.cellsBool:Tryz.prog.cellsOf 4=1:=by kernel_rfl
theorem jGB {H:Type}{enc:TypeId×Value→H}{P:Program}{w:World}{base:Nat}{spare:Nat→Bool}{held:Bool}{t:TypeId}{f0 f1 f2 f3 f4 f5:Field}{fuel:Nat}{cs:List Value}{x:DataW H×List MemPlace}(ht:P.underlying t=some (.struct #[f0,f1,f2,f3,f4,f5]))(h:DataW.trod enc P w base spare held fuel t cs=some x):∃ y0 y1 y2 y3 y4 y5 n,cs.length=P.cellsOf t∧x.1 = .agg [y0.1,y1.1,y2.1,y3.1,y4.1,y5.1]∧DataW.trod enc P w base spare held n f0.type ((cs.drop f0.offset).take (P.cellsOf f0.type))=some y0∧DataW.trod enc P w base spare held n f1.type ((cs.drop f1.offset).take (P.cellsOf f1.type))=some y1∧DataW.trod enc P w base spare held n f2.type ((cs.drop f2.offset).take (P.cellsOf f2.type))=some y2∧DataW.trod enc P w base spare held n f3.type ((cs.drop f3.offset).take (P.cellsOf f3.type))=some y3∧DataW.trod enc P w base spare held n f4.type ((cs.drop f4.offset).take (P.cellsOf f4.type))=some y4∧DataW.trod enc P w base spare held n f5.type ((cs.drop f5.offset).take (P.cellsOf f5.type))=some y5:=by
 obtain ⟨xs,n,_,rfl,hl,hlen,hf⟩:=DataW.trod_struct ht h
 match xs,hlen with
 | [y0,y1,y2,y3,y4,y5],_=>exact ⟨y0,y1,y2,y3,y4,y5,n,hl,by simp,by simpa using hf 0 f0 rfl,by simpa using hf 1 f1 rfl,by simpa using hf 2 f2 rfl,by simpa using hf 3 f3 rfl,by simpa using hf 4 f4 rfl,by simpa using hf 5 f5 rfl⟩
theorem six {α:Type}{l:List α}(h:l.length=6):∃ a b c d e f,l = [a,b,c,d,e,f]:=by
 match l,h with
 | [a,b,c,d,e,f],_=>exact ⟨a,b,c,d,e,f,rfl⟩
theorem jFJ {x:Int}(h:(Lit.int .i64 x).wf=true):In64 x:=by
 simp only[Lit.wf,Bool.and_eq_true,decide_eq_true_eq] at h;exact h
theorem Tryz.bytesOp:Tryz.prog.bytesOf 30=64:=by kernel_rfl
set_option maxRecDepth 100000 in
theorem jI0 {H:Type}{enc:TypeId×Value→H}{W:World}{sp:Nat→Bool}{hd:Bool}{fuel:Nat}{cs:List Value}{x:DataW H×List MemPlace}(h:DataW.trod enc Tryz.prog W 0 sp hd fuel 30 cs=some x):∃ (o:OpV) (da:Option Addr) (dn dc:Nat),cs=opcells o da dn dc∧Arr W 1 da dn dc (ints o.l)∧OpI4 o∧(WB 30 x.1→o.l.length*8≤reachBytes):=by
 obtain ⟨y0,y1,y2,y3,y4,y5,m,hl,hx,h0,h1,h2,h3,h4,h5⟩:=jGB Tryz.underlying30 h;rw[Tryz.cellsOp] at hl;obtain ⟨a,b,c,d,e,f,rfl⟩:=six hl;have e0:Tryz.prog.cellsOf 28=1:=Tryz.cellsInts;have e1:Tryz.prog.cellsOf 3=1:=Tryz.cellsInt;have e2:Tryz.prog.cellsOf 4=1:=Tryz.cellsBool;simp only[e0,e1,e2,List.drop,List.take] at h0 h1 h2 h3 h4 h5;obtain ⟨p0,hp0,_,w0⟩:=DataW.trod_int Tryz.underlying3 h0;obtain ⟨p1,hp1,_,w1⟩:=DataW.trod_int Tryz.underlying3 h1;obtain ⟨p2,hp2,_,w2⟩:=DataW.trod_int Tryz.underlying3 h2;obtain ⟨p3,hp3,_,w3⟩:=DataW.trod_int Tryz.underlying3 h3;obtain ⟨ao,n,cap,xs,hcs,ha,hlk⟩:=jGw h4;obtain ⟨q,hq,_⟩:=DataW.trod_bool Tryz.underlying4 h5
 cases hp0;cases hp1;cases hp2;cases hp3;cases hcs;cases hq
 refine ⟨⟨p0,p1,p2,p3,xs,q⟩,ao,n,cap,rfl,ha,⟨jFJ w0,jFJ w1,jFJ w2,jFJ w3⟩,fun hw=>?_⟩;have hl2:=ha.len;rw[jAG] at hl2;show xs.length*8≤_;rw[hl2];rw[hx] at hw;refine hlk (fun z hz=>hw z ?_);simp only[DataW.weights,Tryz.underlying30];show z∈DataW.weightsEach Tryz.prog [3,3,3,3,28,4] _;simp only[DataW.weightsEach,List.mem_append];exact Or.inr (Or.inr (Or.inr (Or.inr (Or.inl hz))))
theorem jHy {H:Type}{enc:TypeId×Value→H}{W:World}{sp:Nat→Bool}{hd:Bool}{fuel:Nat}{cs:List Value}{x:DataW H×List MemPlace}(h:DataW.trod enc Tryz.prog W 0 sp hd fuel 22 cs=some x):∃ ao n cap os,cs = [.slice ao n cap]∧Scr W ao n cap os∧(WB 22 x.1→n*64≤reachBytes)∧(WB 22 x.1→∀ i,i<n→(og os i).l.length*8≤reachBytes):=by
 classical
 rcases Go.Deep.open_slice Tryz.underlying22 h with ⟨hcs,hx⟩ | ⟨a,len,cap,m,k,D,Pl,hcs,_,hl,hm,hmm,hx,hel⟩
 ·exact ⟨none,0,0,[],hcs,⟨rfl,Nat.le_refl _,Nat.zero_le _,fun i hi=>absurd hi (Nat.not_lt_zero i)⟩,fun _=>(by unfold reachBytes;omega),fun _ i hi=>absurd hi (Nat.not_lt_zero i)⟩
 ·(have hlm:len≤m:=by rw[hmm];split <;> omega);rw[Tryz.cellsOp] at hel;have key:∀ i,i<len→∃ (o:OpV) (ao:Option Addr) (n c:Nat),(∀ j w,(opcells o ao n c)[j]? = some w→W.cell? ((a.add (i*6)).add j)=some w)∧Arr W 1 ao n c (ints o.l)∧OpI4 o∧(WB 30 (D i)→o.l.length*8≤reachBytes):=fun i hi=>by obtain ⟨cs',h1,h2⟩:=hel i (by omega);obtain ⟨o,ao,n,c,rfl,ha,hk,hw⟩:=jI0 h2;obtain ⟨_,_,hc⟩:=World.cells?_some h1;refine ⟨o,ao,n,c,fun j w hj=>?_,ha,hk,hw⟩;(have hj3:j<6:=by simpa using (List.getElem?_eq_some_iff.1 hj).1);rw[hc j hj3];exact hj
  let U:Nat→OpV:=fun i=>if hi:i<len then (key i hi).choose else ⟨0,0,0,0,[],false⟩
  (have hU:∀ i,i<len→∃ (ao:Option Addr) (n c:Nat),(∀ j w,(opcells (U i) ao n c)[j]? = some w→W.cell? ((a.add (i*6)).add j)=some w)∧Arr W 1 ao n c (ints (U i).l)∧OpI4 (U i)∧(WB 30 (D i)→(U i).l.length*8≤reachBytes):=fun i hi=>by simp only[U];rw[dif_pos hi];exact (key i hi).choose_spec);(have hug:∀ i,i<len→og ((List.range len).map U) i=U i:=fun i hi=>by unfold og;rw[List.getD_eq_getElem?_getD,List.getElem?_map,List.getElem?_range hi];rfl);refine ⟨some a,len,cap,(List.range len).map U,hcs,⟨by simp,hl,hm,fun i hi=>?_⟩,fun hw=>?_,fun hw i hi=>?_⟩
  ·obtain ⟨ao,n,c,hc,ha,ho,_⟩:=hU i hi;rw[hug i hi];have h1:=hc 0 _ rfl;have h2:=jD6 h1;(have hb:a=⟨a.block,a.off,none⟩:=by obtain ⟨_,_,_,hc0,_⟩:=hU 0 (by omega);have h5:=hc0 0 _ rfl;(have e:(a.add (0*6)).add 0=a:=by unfold Addr.add;simp);rw[e] at h5;exact jD6 h5);(have h3:(a.add (i*6)).block=a.block:=by rw[hb,add_plain]);refine ⟨a.block,a.off,ao,n,c,by rw[← hb],?_,fun j v hv=>?_,ha,ho⟩
   ·have h4:=World.block_lt_of_cell? W _ h1;rw[hb,add_plain,add_plain] at h4;exact h4
   ·have h3:=hc j v hv;rw[hb,add_plain,add_plain,Nat.add_assoc] at h3;exact h3
  ·rw[hx] at hw;unfold WB at hw;simp only[DataW.weights,Tryz.underlying22,Tryz.bytesOp] at hw;have h8:=hw _ (List.mem_cons_self);simp only[List.length_map,List.length_range] at h8;omega
  ·obtain ⟨ao,n,c,_,_,_,hk⟩:=hU i hi;rw[hug i hi];refine hk (fun z hz=>hw z ?_);rw[hx];simp only[DataW.weights,Tryz.underlying22,List.mem_cons,List.mem_append];exact Or.inr (Or.inl (jLz (d:=D i) (List.mem_map.2 ⟨i,List.mem_range.2 hi,rfl⟩) z hz))
end Go.Proofs.YtigokanoflkinabGreatDoor
