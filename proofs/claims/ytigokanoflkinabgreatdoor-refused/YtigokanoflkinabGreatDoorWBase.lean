/- Base, WTrim, WNatA, WAdd, WSub, WMul, joined. -/
import Derived.Test.YtigokanoflkinabGreatDoorRows
import Derived.Test.YtigokanoflkinabGreatDoorPure
import Derived.WalkSpells
import Derived.WalkLawsBesides
import Derived.BigQuiet
set_option maxHeartbeats 1000000
set_option maxRecDepth 10000
namespace Go.Proofs.YtigokanoflkinabGreatDoor
set_option linter.unusedSimpArgs false
set_option linter.unusedVariables false
open Go.RowKit Por
theorem brw (w:World):Below w.heap.size w w:=Below.refl _ _
theorem brf {n:Nat}{w:World}:Below n w w:=Below.refl n w
theorem hid {p:Prop}(h:p):Hid p:=h
def IntBlk (w:World)(b:Nat):Prop:=∃ arr fz,w.heap[b]? = some (.cells arr 3 fz)
structure Row (w:World)(ao:Option Addr)(n cap:Nat)(xs:List Int):Prop where
  len:xs.length=n
  le:n<=cap
  cm:cap<=maxLen
  head:0<n->∃ b o,ao=some ⟨b,o,none⟩/\b<w.heap.size
  ib:∀ b o,ao=some ⟨b,o,none⟩->0<n->IntBlk w b
  cell:∀ b o,ao=some ⟨b,o,none⟩->∀ j,j<n->w.cell? ⟨b,o+j,none⟩=some (.int .i64 (lm xs j))
theorem IntBlk.lt {w:World}{b:Nat}(h:IntBlk w b):b<w.heap.size:=by
 obtain ⟨a,c,h⟩:=h;exact (Array.getElem?_eq_some_iff.1 h).1
theorem Row.below {w w':World}{ao:Option Addr}{n cap:Nat}{xs:List Int}(h:Row w ao n cap xs)(hb:Below w.heap.size w w'):Row w' ao n cap xs:=by
 refine ⟨h.len,h.le,h.cm,fun hn=>?_,fun b o e hn=>?_,fun b o e j hj=>?_⟩
 ·obtain ⟨b,o,e,a⟩:=h.head hn;exact ⟨b,o,e,Nat.lt_of_lt_of_le a hb.size⟩
 ·obtain ⟨c,g,f⟩:=h.ib b o e hn;exact ⟨c,g,(hb.block b (Array.getElem?_eq_some_iff.1 f).1).trans f⟩
 ·obtain ⟨i,k,d,a⟩:=h.head (by omega);rw[e] at d;cases d;exact (hb.cell (p:=⟨b,o+j,none⟩) a).trans (h.cell b o e j hj)
theorem Row.nil (w:World):Row w none 0 0 []:=⟨rfl,Nat.le_refl _,Nat.zero_le _,fun h=>by omega,fun b o e=>(by cases e),fun b o e=>(by cases e)⟩
theorem Row.take {w:World}{ao:Option Addr}{n cap:Nat}{xs:List Int}(h:Row w ao n cap xs)(m:Nat)(hm:m<=n):Row w ao m cap (xs.take m):=by
 refine ⟨?_,Nat.le_trans hm h.le,h.cm,fun h0=>h.head (by omega),fun b o e h0=>h.ib b o e (by omega),fun b o e j hj=>?_⟩
 ·rw[List.length_take,h.len];omega
 ·rw[h.cell b o e j (by omega)];simp[lm,List.getD_eq_getElem?_getD,List.getElem?_take,hj]
def Bx (w:World)(b:Nat)(cs:Array Value)(T:TypeId):Prop:=w.heap[b]? = some (.cells cs T (0,0))
theorem Bx.lt {w:World}{b:Nat}{cs:Array Value}{T:TypeId}(h:Bx w b cs T):b<w.heap.size:=(Array.getElem?_eq_some_iff.1 h).1
theorem Bx.cell {w:World}{b:Nat}{cs:Array Value}{T:TypeId}(h:Bx w b cs T)(j:Nat)(v:Value)(hv:cs[j]? = some v):w.cell? ⟨b,j,none⟩=some v:=(cell_of_row w b j _ _ _ h).trans hv
theorem Bx.frozen {w:World}{b:Nat}{cs:Array Value}{T:TypeId}(h:Bx w b cs T)(j:Nat):w.frozen? ⟨b,j,none⟩=false:=frozen_of_row w b j _ _ h
theorem Bx.below {B:Nat}{w w':World}{b:Nat}{cs:Array Value}{T:TypeId}(h:Bx w b cs T)(hb:Below B w w')(hB:b<B):Bx w' b cs T:=(hb.block b hB).trans h
theorem Bx.other {w:World}{b:Nat}{cs:Array Value}{T:TypeId}(h:Bx w b cs T)(a:Addr)(v:Value)(ha:a.block≠b):Bx (w.setCell a v) b cs T:=(heap_setCell_other w a b v (fun e=>ha e.symm)).trans h
theorem Row.other {w:World}{ao:Option Addr}{n cap:Nat}{xs:List Int}(h:Row w ao n cap xs)(b i:Nat)(v:Value){cs:Array Value}{T:TypeId}(hx:Bx w b cs T)(hT:T≠3):Row (w.setCell ⟨b,i,none⟩ v) ao n cap xs:=by
 (have f:∀ a o,ao=some ⟨a,o,none⟩->0<n->a≠b:=by intro a o e c m;subst m;obtain ⟨d,l,g⟩:=h.ib a o e c;unfold Bx at hx;rw[hx] at g;cases g;exact hT rfl);refine ⟨h.len,h.le,h.cm,fun c=>?_,fun a o e c=>?_,fun a o e j hj=>?_⟩
 ·obtain ⟨b,o,e,k⟩:=h.head c;exact ⟨b,o,e,by simpa [World.setCell] using k⟩
 ·obtain ⟨d,l,g⟩:=h.ib a o e c;exact ⟨d,l,(Below.heap_setCell w _ v a (f a o e c)).trans g⟩
 ·rw[<- h.cell a o e j hj];exact World.cell?_of_block (Below.heap_setCell w _ v a (f a o e (by omega)))
def Blk (w:World)(g:Nat)(zs:List Int):Prop:=w.heap[g]? = some (.cells (zs.map (Value.int .i64)).toArray 3 (0,0))
theorem Blk.lt {w:World}{g:Nat}{zs:List Int}(h:Blk w g zs):g<w.heap.size:=by
 unfold Blk at h;exact (Array.getElem?_eq_some_iff.1 h).1
theorem Blk.cell {w:World}{g:Nat}{zs:List Int}(h:Blk w g zs)(j:Nat)(hj:j<zs.length):w.cell? ⟨g,j,none⟩=some (.int .i64 (lm zs j)):=by
 rw[cell_of_row w g j _ _ _ h];simp[lm,hj]
theorem Blk.frozen {w:World}{g:Nat}{zs:List Int}(h:Blk w g zs)(j:Nat):w.frozen? ⟨g,j,none⟩=false:=frozen_of_row w g j _ _ h
theorem Blk.set {w:World}{g:Nat}{zs:List Int}(h:Blk w g zs)(j:Nat)(v:Int):Blk (w.setCell ⟨g,j,none⟩ (.int .i64 v)) g (zs.set j v):=by
 unfold Blk;rw[heap_setCell_same w g j _ _ _ h];simp[List.map_set]
theorem Blk.below {B:Nat}{w w':World}{g:Nat}{zs:List Int}(h:Blk w g zs)(hb:Below B w w')(hg:g<B):Blk w' g zs:=(hb.block g hg).trans h
theorem Blk.other {w:World}{g:Nat}{zs:List Int}(h:Blk w g zs)(a:Addr)(v:Value)(ha:a.block≠g):Blk (w.setCell a v) g zs:=(heap_setCell_other w a g v (fun e=>ha e.symm)).trans h
theorem Blk.row {w:World}{g:Nat}{zs:List Int}(h:Blk w g zs)(o n cap:Nat)(hn:o+n<=zs.length)(hc:n<=cap)(hm:cap<=maxLen):Row w (some ⟨g,o,none⟩) n cap ((zs.drop o).take n):=by
 refine ⟨by simp;omega,hc,hm,fun _=>⟨_,_,rfl,h.lt⟩,fun b o' e _=>(by cases e;exact ⟨_,_,h⟩),fun b o' e j hj=>?_⟩
 cases e
 rw[h.cell (o+j) (by omega)];simp[lm,List.getElem?_take,hj]
theorem Blk.row0 {w:World}{g:Nat}{zs:List Int}(h:Blk w g zs)(n cap:Nat)(hn:n=zs.length)(hc:n<=cap)(hm:cap<=maxLen):Row w (some ⟨g,0,none⟩) n cap zs:=by
 have:=h.row 0 n cap (by omega) hc hm
 rwa [List.drop_zero,List.take_of_length_le (by omega)] at this
theorem Tryz.infoInt:(Tryz.prog.info? 3).map (fun i=>(i.zero,i.size,i.bytes))=some (some (.int .i64 0),1,8):=by kernel_rfl
theorem jAi (w:World){ops:Array Oper}{rest:List Oper}{o:Oper}{a:Act}{Q:Exit->Act->World->Prop}(hg:o.guard=none)(l c:Operand)(hop:o.op=Op.makeSlice 28 l c)(L C:Int)(n:Nat)(hl:a.eval l = .int .i64 L)(hc:a.eval c = .int .i64 C)(hL:L=(n:Int))(hC:C=(n:Int))(hn:n<=1000000)(hK:∀ w',Blk w' w.heap.size (List.replicate n 0)->Below w.heap.size w w'->w.heap.size<w'.heap.size->wpList Tryz.prog ops Q rest (a.put o.dst (.slice (some ⟨w.heap.size,0,none⟩) n n)) w'):wpList Tryz.prog ops Q (o :: rest) a w:=by
 obtain ⟨i,u,m,p,q⟩:=info_parts Tryz.infoInt;refine wpList_make_full w hg l c 28 hop w.heap.size 3 i (.int .i64 0) 1 Tryz.underlying28 u m p .i64 .i64 L C n hl hc hL hC (by rw[q];omega) (by unfold maxLen;omega) (Nat.le_refl _) ?_;intro w' v h;have t:Below w.heap.size w w':=brf.grown h (Nat.le_refl _) (fun k e=>by cases e);rcases v.2 with ⟨b,_⟩ | ⟨g,r,d,b,_,j,x,y,s,f⟩
 ·cases b
 ·simp only[Value.slice.injEq,Option.some.injEq,Addr.mk.injEq,and_true,true_and] at b;obtain ⟨rfl,rfl⟩:=b;(have e:d=((List.replicate n (0:Int)).map (Value.int .i64)).toArray:=by apply Array.toList_inj.1;rw[Nat.mul_one] at f s;rw[List.take_of_length_le (by rw[Array.length_toList];omega)] at f;rw[f,show (Value.int .i64 0).cells=#[.int .i64 0] from rfl,toList_madeCells_one];simp);rw[e] at j;exact hK w' j t (Blk.lt j)
theorem jAC (w:World)(cs:Array Value)(T:TypeId):Bx (w.alloc (.cells cs T)) w.heap.size cs T:=heap_alloc_new w _
theorem jAB {w:World}{b:Nat}{cs:Array Value}{T:TypeId}(h:Bx w b cs T)(o:Obj):Bx (w.alloc o) b cs T:=(Below.heap_alloc w o b h.lt).trans h
theorem boxes2 (w:World)(a b:Array Value)(T U:TypeId):Bx ((w.alloc (.cells a T)).alloc (.cells b U)) w.heap.size a T/\Bx ((w.alloc (.cells a T)).alloc (.cells b U)) (w.heap.size+1) b U/\Below w.heap.size w ((w.alloc (.cells a T)).alloc (.cells b U)):=by
 (have c:(w.alloc (.cells a T)).heap.size=w.heap.size+1:=by simp);refine ⟨jAB (jAC _ _ _) _,?_,(brf.alloc (Nat.le_refl _) _).alloc (by simp) _⟩;have:=jAC (w.alloc (.cells a T)) b U;rwa [c] at this
theorem boxes3 (w:World)(a b c:Array Value)(T U V:TypeId):Bx (((w.alloc (.cells a T)).alloc (.cells b U)).alloc (.cells c V)) w.heap.size a T/\Bx (((w.alloc (.cells a T)).alloc (.cells b U)).alloc (.cells c V)) (w.heap.size+1) b U/\Bx (((w.alloc (.cells a T)).alloc (.cells b U)).alloc (.cells c V)) (w.heap.size+1+1) c V/\Below w.heap.size w (((w.alloc (.cells a T)).alloc (.cells b U)).alloc (.cells c V)):=by
 obtain ⟨e,f,g⟩:=boxes2 w a b T U;(have d:((w.alloc (.cells a T)).alloc (.cells b U)).heap.size=w.heap.size+1+1:=by simp);refine ⟨jAB e _,jAB f _,?_,g.alloc (by rw[d];omega) _⟩;have:=jAC ((w.alloc (.cells a T)).alloc (.cells b U)) c V;rwa [d] at this
theorem jDF (ao:Option Addr)(n cap:Nat)(xs:List Int)(w:World)(hr:Row w ao n cap xs)(hL:yg xs)(hn:n<=60000):Calls Tryz.prog 142 #[.slice ao n cap] w fun e w'=>∃ m,m<=n/\xs.take m=zA (val xs).toNat/\e = .returned (.agg #[.slice ao m cap])/\Below w.heap.size w w':=by
  have j:=hr.len;have l:=hr.le;have d:=hr.cm;unfold maxLen at d;go_enter Tryz.func142,Tryz.ntmps142;go_wp2
  go_loop[3] (fun v=>∃ m:Nat,m<=n/\v = .int .i64 m/\Hid (∀ i,m<=i->i<xs.length->lm xs i=0)) (fun v=>(intOf v).toNat)
  case atStart=>exact ⟨n,Nat.le_refl _,rfl,fun i h1 h2=>by omega⟩
  case round=>
    obtain ⟨m,s,rfl,g⟩:=hrel;by_cases k:m=0
    · subst k;have E:=jJg xs 0 hL (by omega) (fun i h1 h2=>g.out i h1 h2) (.inl rfl);have c:=hid (E);clear E;go_wp2;refine bodyPost_ret (v:=.agg #[.slice ao 0 cap]) (by simp[results,Tryz.results142,go_sem]) rfl ⟨0,by omega,c.out,rfl,?_⟩;exact (brf.alloc (Nat.le_refl _) _)
    · obtain ⟨b,o,rfl,p⟩:=hr.head (by omega);have h:=hr.cell b o rfl (m - 1) (by omega);obtain ⟨q,rfl⟩:∃ q,m=q+1:=⟨m - 1,by omega⟩;simp only[Nat.add_sub_cancel] at h;by_cases a:lm xs q=0
      · rw[a] at h;have f:=hid (a);clear hr a;go_wp2
        exact ⟨⟨q, by omega, rfl, fun i h1 h2 => by
          by_cases e : i = q
          · rw [e]; exact f.out
          · exact g.out i (by omega) h2⟩, by simp [intOf]⟩
      · (have r:(lm xs q == 0)=false:=by simpa using a);have E:=jJg xs (q+1) hL (by omega) (fun i h1 h2=>g.out i h1 h2) (.inr a);have c:=hid (E);clear E;clear hr;go_wp2;refine bodyPost_ret (v:=.agg #[.slice (some ⟨b,o,none⟩) (q+1) cap]) (by simp[results,Tryz.results142,go_sem]) rfl ⟨q+1,by omega,c.out,rfl,?_⟩;exact (brf.alloc (Nat.le_refl _) _)
def Num (w:World)(v:Value)(m:Nat):Prop:=∃ ao n cap,v = .agg #[.slice ao n cap]/\Row w ao n cap (zA m)
theorem Num.below {w w':World}{v:Value}{m:Nat}(h:Num w v m)(hb:Below w.heap.size w w'):Num w' v m:=by
 obtain ⟨b,n,a,rfl,c⟩:=h;exact ⟨b,n,a,rfl,c.below hb⟩
theorem jFe (ao:Option Addr)(n cap i:Nat)(xs:List Int)(w:World)(hr:Row w ao n cap xs)(hn:n<=60000)(hi:i<=60000):Calls Tryz.prog 143 #[.agg #[.slice ao n cap],.int .i64 i] w fun e w'=>e = .returned (.int .i64 (lm xs i))/\Below w.heap.size w w':=by
 by_cases h:i<n
 ·obtain ⟨b,o,rfl,a⟩:=hr.head (by omega);have c:=hr.cell b o rfl i h;clear hr;go_enter Tryz.func143,Tryz.ntmps143;go_wp2;go_ret;exact ⟨rfl,brf.alloc (Nat.le_refl _) _⟩
 ·(have e:lm xs i=0:=by have:=hr.len;unfold lm;rw[List.getD_eq_getElem?_getD,List.getElem?_eq_none (by omega)];rfl);rw[e];clear hr e;go_enter Tryz.func143,Tryz.ntmps143;go_wp2;go_ret;exact ⟨rfl,brf.alloc (Nat.le_refl _) _⟩
def isZ (m:Nat):Bool:=m == 0
theorem jAb (ao:Option Addr)(n cap:Nat)(m:Nat)(w:World)(hr:Row w ao n cap (zA m))(hn:n<=60000):Calls Tryz.prog 131 #[.agg #[.slice ao n cap]] w fun e w'=>e = .returned (.bool (isZ m))/\Below w.heap.size w w':=by
 (have e:isZ m=((n:Int) == 0):=by have a:=hr.len;have b:=@jEE m;unfold isZ;rw[Bool.eq_iff_iff,beq_iff_eq,beq_iff_eq,<- b,<- List.length_eq_zero_iff,a];omega);rw[e];clear hr e;go_enter Tryz.func131,Tryz.ntmps131;go_wp2;go_ret;exact ⟨rfl,brf.alloc (Nat.le_refl _) _⟩
theorem jA8:zA 1 = [1]:=by rw[jBR 1 (by omega),show 1 / 10000=0 from rfl,jAr];rfl
theorem jBv (w:World):Calls Tryz.prog 126 #[] w fun e w'=>∃ v,e = .returned v/\Num w' v 1/\Below w.heap.size w w':=by
 go_enter Tryz.func126,Tryz.ntmps126;go_wp2;refine bodyPost_ret (v:=.agg #[.slice (some ⟨w.heap.size+1,0,none⟩) 1 1]) (by simp[results,Tryz.results126,go_sem]) rfl ⟨_,rfl,⟨_,_,_,rfl,?_⟩,(brf.alloc (Nat.le_refl _) _).alloc (by simp) _⟩;rw[jA8];refine ⟨rfl,Nat.le_refl _,by decide,fun _=>⟨_,_,rfl,by simp⟩,fun b o e _=>(by cases e;exact ⟨_,_,(boxes2 w _ #[.int .i64 1] _ 3).2.1⟩),fun b o e j hj=>?_⟩
 cases e
 (obtain rfl:j=0:=by omega);simp[lm]
def yQ (a b:Int):Int:=if a<b then -1 else if a=b then 0 else 1
theorem jAW (ao bo:Option Addr)(n capa m capb:Nat)(x y:Nat)(w:World)(hr:Row w ao n capa (zA x))(hs:Row w bo m capb (zA y))(hn:n<=60000)(hm:m<=60000):Calls Tryz.prog 121 #[.agg #[.slice ao n capa],.agg #[.slice bo m capb]] w fun e w'=>e = .returned (.int .i64 (yQ x y))/\Below w.heap.size w w':=by
  have r:=hr.len;have s:=hs.len;have z:=jAg x;have A:=jAg y;rcases Nat.lt_trichotomy n m with h | h | h
  · (have e:yQ x y = -1:=by have:=jCY (jAJ x) (jAJ y) (jBj y) (by omega);unfold yQ;rw[if_pos (by omega)]);rw[e];clear e hr hs r s z A;go_enter Tryz.func121,Tryz.ntmps121;go_wp2;go_ret;exact ⟨rfl,(brf.alloc (Nat.le_refl _) _).alloc (by simp) _⟩
  · subst h;have M:=hid (hr);have N:=hid (hs);have B:=hid (z);have C:=hid (A);(have Z:∀ b o,ao=some ⟨b,o,none⟩->0<n->b<w.heap.size:=fun b o e h=>by obtain ⟨Q,T,c,G⟩:=hr.head h;rw[e] at c;cases c;exact G);(have Y:∀ b o,bo=some ⟨b,o,none⟩->0<n->b<w.heap.size:=fun b o e h=>by obtain ⟨Q,T,c,G⟩:=hs.head h;rw[e] at c;cases c;exact G);clear hr hs z A;go_enter Tryz.func121,Tryz.ntmps121;go_wp2
    go_loopw [5] (fun v wr => ∃ k : Nat, k <= n /\ v = .int .i64 ((k : Int) - 1) /\ Hid (∀ j, k <= j -> j < n -> lm (zA x) j = lm (zA y) j) /\
        Below (w.heap.size + 2) ((w.alloc (.cells #[.slice ao n capa] 116)).alloc (.cells #[.slice bo n capb] 116)) wr) (fun v _ => (intOf v + 1).toNat)
    case atStart=>exact ⟨n,Nat.le_refl _,rfl,fun j h1 h2=>by omega,Below.refl _ _⟩
    case round=>
      obtain ⟨k,hk,rfl,u,f⟩:=hrel;have d:Below w.heap.size w wr:=((brf.alloc (Nat.le_refl _) _).alloc (by simp) _).trans (f.mono (by omega));have t:=hid (d);have U:wr.cell? ⟨w.heap.size,0,none⟩=some (.slice ao n capa):=(f.cell (p:=⟨w.heap.size,0,none⟩) (by simp)).trans (by simp);have V:wr.cell? ⟨w.heap.size+1,0,none⟩=some (.slice bo n capb):=(f.cell (p:=⟨w.heap.size+1,0,none⟩) (by simp)).trans (by simp);have P:=hid (f);clear f;by_cases S:k=0
      · subst S;(have e:yQ x y=0:=by have:=jHt n r s (fun i hi=>u.out i (by omega) hi);(have:(x:Int)=y:=by rw[<- B.out,<- C.out,this]);unfold yQ;rw[if_neg (by omega),if_pos this]);clear d;go_wp2;go_ret;exact ⟨by rw[e];rfl,t.out⟩
      · obtain ⟨q,rfl⟩:∃ q,k=q+1:=⟨k - 1,by omega⟩;obtain ⟨D,K,rfl,H⟩:=M.out.head (by omega);obtain ⟨E,L,rfl,I⟩:=N.out.head (by omega);have W:wr.cell? ⟨D,K+q,none⟩=some (.int .i64 (lm (zA x) q)):=(d.cell (p:=⟨D,K+q,none⟩) H).trans (M.out.cell D K rfl q (by omega));have X:wr.cell? ⟨E,L+q,none⟩=some (.int .i64 (lm (zA y) q)):=(d.cell (p:=⟨E,L+q,none⟩) I).trans (N.out.cell E L rfl q (by omega));clear d;(have R:(0:Int)<=((q+1:Nat):Int) - 1:=by omega);rcases Int.lt_trichotomy (lm (zA x) q) (lm (zA y) q) with J | g | F
        · (have e:yQ x y = -1:=by have:=jC4 _ _ (jAJ x) (jAJ y) n r s q (by omega) (fun i h1 h2=>u.out i (by omega) h2) J;rw[B.out,C.out] at this;unfold yQ;rw[if_pos this]);have a:=hid (e);clear e;go_wp2;go_quiet (fail);go_wp2;go_ret;exact ⟨by rw[a.out];rfl,below_drewN t.out _⟩
        · (have l:¬ lm (zA x) q<lm (zA y) q:=by omega);(have O:¬ lm (zA y) q<lm (zA x) q:=by omega);have a:=hid (g);clear g;go_wp2;go_quiet (fail);go_wp2;go_quiet (fail);go_wp2
          go_roundw
          case rel => exact ⟨q, by omega, by go_num, fun j h1 h2 => (by
            by_cases e : j = q
            · rw [e]; exact a.out
            · exact u.out j (by omega) h2), below_drewN P.out _⟩
          case measure=>simp[intOf]
        · (have l:¬ lm (zA x) q<lm (zA y) q:=by omega);(have e:yQ x y=1:=by have:=jC4 _ _ (jAJ y) (jAJ x) n s r q (by omega) (fun i h1 h2=>(u.out i (by omega) h2).symm) F;rw[B.out,C.out] at this;unfold yQ;rw[if_neg (by omega),if_neg (by omega)]);have a:=hid (e);clear e;go_wp2;go_quiet (fail);go_wp2;go_quiet (fail);go_wp2;go_ret;exact ⟨by rw[a.out];rfl,by first | exact below_drewN t.out _ | exact below_drewN (below_drewN t.out _) _⟩
  · (have e:yQ x y=1:=by have:=jCY (jAJ y) (jAJ x) (jBj x) (by omega);unfold yQ;rw[if_neg (by omega),if_neg (by omega)]);rw[e];clear e hr hs r s z A;go_enter Tryz.func121,Tryz.ntmps121;go_wp2;go_ret;exact ⟨rfl,(brf.alloc (Nat.le_refl _) _).alloc (by simp) _⟩
theorem jMi (o:List Int)(n x y:Nat)(c:Int)(hlen:o.length=n+1)(hx:(zA x).length=n)(hy:(zA y).length<=n)(h:val (o.take n)+10000 ^ n*c=val ((zA x).take n)+val ((zA y).take n)):(val (o.set n c)).toNat=x+y:=by
 have e:(o.set n c).take (n+1)=o.set n c:=List.take_of_length_le (by simp;omega);rw[<- e,jBN o n c (by omega),h,List.take_of_length_le (by omega),List.take_of_length_le (by omega),jAg,jAg];omega
theorem jBZ {w w':World}{ao:Option Addr}{n cap m:Nat}{xs:List Int}{z:Nat}(hr:Row w ao n cap xs)(hm:m<=n)(he:xs.take m=zA (val xs).toNat)(hz:(val xs).toNat=z)(hb:Below w.heap.size w w'):Row w' ao m cap (zA z):=by
 have:=(hr.take m hm).below hb
 rwa [he,hz] at this
theorem jLr (ao bo:Option Addr)(n capa m capb:Nat)(x y:Nat)(w:World)(hr:Row w ao n capa (zA x))(hs:Row w bo m capb (zA y))(hn:n<=50000)(hm:m<=n):Calls Tryz.prog 119 #[.agg #[.slice ao n capa],.agg #[.slice bo m capb]] w fun e w'=>∃ v,e = .returned v/\Num w' v (x+y)/\Below w.heap.size w w':=by
  have l1:=hr.len;have l2:=hs.len;have N:=hid (hr);have W:=hid (hs);(have ag:¬ (n:Int)<(m:Int):=by omega);clear hr hs;go_enter Tryz.func119,Tryz.ntmps119;go_wp2_with (at_make;refine jAi _ rfl _ _ rfl _ _ (n+1) rfl rfl (by omega) (by omega) (by omega) ?_);intro L z f ah;obtain ⟨Q,R,S,T⟩:=boxes3 w #[.slice ao n capa] #[.slice bo m capb] #[.slice none 0 0] 116 116 116;have O:=hid (Q.below f (by omega));have X:=hid (R.below f (by omega));have Y:=hid (S.below f (by omega));have k1:=O.out.cell 0 _ rfl;have P:Below w.heap.size w L:=T.trans (f.mono (by omega));clear Q R S T;have o:=hid (P);have B:=hid (z);clear f P z;go_wp2
  go_loopw [6, 28] (fun vc vi wr => ∃ (k : Nat) (c : Int) (d : List Int), k <= n /\ vi = .int .i64 k /\ vc = .int .i64 c /\ 0 <= c /\ c <= 1 /\ d.length = n + 1 /\ Hid (yg d) /\
      Hid (val (d.take k) + 10000 ^ k * c = val ((zA x).take k) + val ((zA y).take k)) /\ Hid (Blk wr (w.heap.size + 1 + 1 + 1) d) /\ Hid (Below (w.heap.size + 3) L wr)) (fun _ vi _ => n - (intOf vi).toNat)
  case atStart=>exact ⟨0,0,_,Nat.zero_le _,rfl,rfl,by omega,by omega,by simp,jBV _,by simp[Hid,val],B.out,Below.refl _ _⟩
  case round=>
    obtain ⟨k,c,d,hk,rfl,rfl,H,af,A,h,l,a,r⟩:=hrel;have q1:=(O.out.below r.out (by omega)).cell 0 _ rfl;have q2:=(X.out.below r.out (by omega)).cell 0 _ rfl;have M:Hid (Below w.heap.size w wr):=o.out.trans (r.out.mono (by omega));by_cases U:k<n
    · obtain ⟨D,K,rfl,I⟩:=N.out.head (by omega);have d1:wr.cell? ⟨D,K+k,none⟩=some (.int .i64 (lm (zA x) k)):=(M.out.cell (p:=⟨D,K+k,none⟩) I).trans (N.out.cell D K rfl k (by omega));have J:Hid (Row wr bo m capb (zA y)):=W.out.below M.out;have bx:=jAM (jAJ x) k;(have E:=jAM (jAJ y) k);obtain ⟨aa,ab⟩:=bx;(obtain ⟨ad,ae⟩:=E);have g:w.heap.size+1+1+1<wr.heap.size:=a.out.lt;go_wp2_with (go_at_call 143;refine (jFe bo m capb k (zA y) _ J.out (by omega) (by omega)).mono ?_;rintro e V ⟨rfl,b⟩;have g1:=(a.out.below b g).cell k (by omega);have g2:=(a.out.below b g).frozen k;have q:=hid (b);clear b)
      go_roundw
      (case rel=>refine ⟨k+1,_,_,by omega,by go_num,rfl,by omega,by omega,by simpa using A,jB4 h.out k _ (by omega) (by omega),jKl d (zA x) (zA y) k c _ (by omega) rfl l.out,(a.out.below q.out g).set k _,?_⟩;exact (r.out.trans (q.out.mono (by omega))).setCell (by show w.heap.size+3<=w.heap.size+1+1+1;omega) _);case measure=>simp[intOf];omega
    · (obtain rfl:k=n:=by omega);have g1:=a.out.cell k (by omega);have g2:=a.out.frozen k;have t:=hid (jMi d k x y c A l1 (by omega) l.out);have F:=hid (a.out.set k c);have i:=hid (Blk.row0 F.out (k+1) (k+1) (by simp;omega) (Nat.le_refl _) (by unfold maxLen;omega));have G:=hid (jB4 h.out k c H (by omega));have g:w.heap.size+1+1+1<wr.heap.size:=a.out.lt;go_wp2_with fail;refine (jDF _ (k+1) (k+1) (d.set k c) _ i.out G.out (by omega)).mono ?_;rintro e V ⟨j,hj,u,rfl,b⟩;have s:Hid (Below (w.heap.size+3) L V):=(r.out.setCell (by show w.heap.size+3<=w.heap.size+1+1+1;omega) _).trans (b.mono (by simp;omega));have Z:=hid (Y.out.below s.out (by omega));have z1:=Z.out.cell 0 _ rfl;have z2:=Z.out.frozen 0;have C:=hid (jBZ i.out hj u t.out b);clear b u;go_wp2;refine bodyPost_ret (v:=.agg #[.slice (some ⟨w.heap.size+1+1+1,0,none⟩) j (k+1)]) (by simp[results,Tryz.results119,go_sem,z1]) rfl ⟨_,rfl,⟨_,_,_,rfl,C.out.other _ _ _ Z.out (by decide)⟩,?_⟩;exact (o.out.trans (s.out.mono (by omega))).setCell (by simp;omega) _
theorem jKg (ao bo:Option Addr)(n capa m capb:Nat)(x y:Nat)(w:World)(hr:Row w ao n capa (zA x))(hs:Row w bo m capb (zA y))(hn:n<=50000)(hm:m<=50000):Calls Tryz.prog 119 #[.agg #[.slice ao n capa],.agg #[.slice bo m capb]] w fun e w'=>∃ v,e = .returned v/\Num w' v (x+y)/\Below w.heap.size w w':=by
 by_cases h:m<=n
 ·exact jLr ao bo n capa m capb x y w hr hs hn h
 ·(have u:(n:Int)<(m:Int):=by omega);obtain ⟨p,q,l,d⟩:=boxes3 w #[.slice ao n capa] #[.slice bo m capb] #[.slice none 0 0] 116 116 116;have i:=hid (hr.below d);have j:=hid (hs.below d);have o:=hid (d);have k:=hid (l);clear hr hs d p q l;go_enter Tryz.func119,Tryz.ntmps119;go_wp2_with fail;refine (jLr bo ao m capb n capa y x _ j.out i.out hm (by omega)).mono ?_;rintro e z ⟨v,rfl,⟨s,r,c,rfl,a⟩,b⟩;have Z:=hid (k.out.below b k.out.lt);have t:=Z.out.cell 0 _ rfl;have A:=Z.out.frozen 0;have f:=hid (b);have g:=hid (a);clear b a;go_wp2;refine bodyPost_ret (v:=.agg #[.slice s r c]) (by simp[results,Tryz.results119,go_sem,t]) rfl ⟨_,rfl,⟨_,_,_,rfl,?_⟩,?_⟩
  ·rw[Nat.add_comm x y];exact g.out.other _ _ _ Z.out (by decide)
  ·exact (o.out.trans (f.out.mono (by simp;omega))).setCell (by simp;omega) _
theorem jMV (o:List Int)(n x y:Nat)(b:Int)(hL:yg o)(hlen:o.length=n)(hx:(zA x).length=n)(hy:(zA y).length<=n)(hb:0<=b)(hxy:y<=x)(h:val (o.take n) - 10000 ^ n*b=val ((zA x).take n) - val ((zA y).take n)):(val o).toNat=x - y:=by
 rw[List.take_of_length_le (by omega),List.take_of_length_le (by omega),List.take_of_length_le (by omega),jAg,jAg] at h;have a:=jDJ hL;rw[hlen] at a;have d:=jAd hL
 have c:b=0:=by
  by_cases e:b=0
  ·exact e
  ·have:(10000:Int) ^ n*1<=10000 ^ n*b:=Int.mul_le_mul_of_nonneg_left (by omega) (by omega);omega
 subst c;omega
theorem jMq (x y:Nat)(h:x<=y):yQ x y<=0:=by unfold yQ;split <;> (try split) <;> omega
theorem jMY (x y:Nat)(h:y<x):yQ x y=1:=by unfold yQ;rw[if_neg (by omega),if_neg (by omega)]
theorem sub_le (ao bo:Option Addr)(n capa m capb:Nat)(x y:Nat)(w:World)(hr:Row w ao n capa (zA x))(hs:Row w bo m capb (zA y))(hn:n<=50000)(hm:m<=50000)(hxy:x<=y):Calls Tryz.prog 122 #[.agg #[.slice ao n capa],.agg #[.slice bo m capb]] w fun e w'=>∃ v,e = .returned v/\Num w' v (x - y)/\Below w.heap.size w w':=by
 obtain ⟨j,k,h,b⟩:=boxes3 w #[.slice ao n capa] #[.slice bo m capb] #[.slice none 0 0] 116 116 116;have d:=hid (hr.below b);have f:=hid (hs.below b);have i:=hid (b);have g:=hid (h);have o:=jMq x y hxy;clear hr hs b j k h;go_enter Tryz.func122,Tryz.ntmps122;go_wp2_with fail;refine (jAW ao bo n capa m capb x y _ d.out f.out (by omega) (by omega)).mono ?_;rintro e p ⟨rfl,a⟩;have Z:=hid (g.out.below a g.out.lt);have l:=Z.out.cell 0 _ rfl;have q:=Z.out.frozen 0;have c:=hid (a);clear a;go_wp2;refine bodyPost_ret (v:=.agg #[.slice none 0 0]) (by simp[results,Tryz.results122,go_sem,l]) rfl ⟨_,rfl,⟨_,_,_,rfl,?_⟩,?_⟩
 ·rw[Nat.sub_eq_zero_of_le hxy];exact Row.nil _
 ·exact (i.out.trans (c.out.mono (by simp;omega))).setCell (by simp;omega) _
theorem jNK (ao bo:Option Addr)(n capa m capb:Nat)(x y:Nat)(w:World)(hr:Row w ao n capa (zA x))(hs:Row w bo m capb (zA y))(hn:n<=50000)(hm:m<=50000)(hxy:y<x):Calls Tryz.prog 122 #[.agg #[.slice ao n capa],.agg #[.slice bo m capb]] w fun e w'=>∃ v,e = .returned v/\Num w' v (x - y)/\Below w.heap.size w w':=by
  have l1:=hr.len;have l2:=hs.len;(have ai:m<=n:=by rw[<- l1,<- l2];exact jAl (by omega));have HR:=hid (hr);have HS:=hid (hs);obtain ⟨c1,c2,c3,J⟩:=boxes3 w #[.slice ao n capa] #[.slice bo m capb] #[.slice none 0 0] 116 116 116;have S:=hid (hr.below J);have U:=hid (hs.below J);have H5:=hid (J);have z:=hid (c1);have A:=hid (c2);have B:=hid (c3);have hc:=jMY x y hxy;clear hr hs J c1 c2 c3;go_enter Tryz.func122,Tryz.ntmps122;go_wp2_with fail;refine (jAW ao bo n capa m capb x y _ S.out U.out (by omega) (by omega)).mono ?_;rintro e w2 ⟨rfl,f⟩;have H:=f.size;simp only[World.size_alloc] at H;have I:=hid (z.out.below f z.out.lt);have N:=hid (A.out.below f A.out.lt);have O:=hid (B.out.below f B.out.lt);have y1:=I.out.cell 0 _ rfl;have t:Hid (Below w.heap.size w w2):=H5.out.trans (f.mono (by simp;omega));clear f z A B;go_wp2_with (at_make;refine jAi _ rfl _ _ rfl _ _ n rfl rfl (by omega) (by omega) (by omega) ?_);intro X r d V;have z:=hid (I.out.below d I.out.lt);have A:=hid (N.out.below d N.out.lt);have B:=hid (O.out.below d O.out.lt);have k1:=z.out.cell 0 _ rfl;have s:Hid (Below w.heap.size w X):=t.out.trans (d.mono (by omega));obtain ⟨G,hG⟩:∃ G,G=w2.heap.size:=⟨_,rfl⟩;rw[<- hG] at r d V H ⊢;have L:=hid (r);clear d r hG I N O y1 t;go_wp2
  go_loopw [6, 22] (fun vc vi wr => ∃ (k : Nat) (c : Int) (b : List Int), k <= n /\ vi = .int .i64 k /\ vc = .int .i64 c /\ 0 <= c /\ c <= 1 /\ b.length = n /\ Hid (yg b) /\
      Hid (val (b.take k) - 10000 ^ k * c = val ((zA x).take k) - val ((zA y).take k)) /\ Hid (Blk wr G b) /\ Hid (Below G X wr)) (fun _ vi _ => n - (intOf vi).toNat)
  case atStart=>exact ⟨0,0,_,Nat.zero_le _,rfl,rfl,by omega,by omega,by simp,jBV _,by simp[Hid,val],L.out,Below.refl _ _⟩
  case round=>
    obtain ⟨k,c,b,hk,rfl,rfl,Q,ah,F,g,l,a,K⟩:=hrel;have q2:=(A.out.below K.out (by omega)).cell 0 _ rfl;have Y:Hid (Below w.heap.size w wr):=s.out.trans (K.out.mono (by omega));have q:G<wr.heap.size:=a.out.lt;by_cases aa:k<n
    · obtain ⟨P,W,rfl,R⟩:=HR.out.head (by omega);have d1:wr.cell? ⟨P,W+k,none⟩=some (.int .i64 (lm (zA x) k)):=(Y.out.cell (p:=⟨P,W+k,none⟩) R).trans (HR.out.cell P W rfl k (by omega));have T:Hid (Row wr bo m capb (zA y)):=HS.out.below Y.out;obtain ⟨ad,ae⟩:=jAM (jAJ x) k;obtain ⟨af,ag⟩:=jAM (jAJ y) k;by_cases ab:lm (zA x) k - lm (zA y) k - c<0
      all_goals
        go_wp2_with (go_at_call 143; refine (jFe bo m capb k (zA y) _ T.out (by omega) (by omega)).mono ?_; rintro e w3 ⟨rfl, h⟩; have g1 := (a.out.below h q).cell k (by omega); have g2 := (a.out.below h q).frozen k; have u := hid (h); clear h)
        go_roundw
        case rel =>
          refine ⟨k + 1, _, _, by omega, by go_num, rfl, by omega, by omega, by simpa using F, jB4 g.out k _ (by omega) (by omega), jLU b (zA x) (zA y) k c _ _ (by omega) (by omega) l.out, (a.out.below u.out q).set k _, ?_⟩
          exact (K.out.trans (u.out.mono (by omega))).setCell (Nat.le_refl _) _
        case measure => simp [intOf]; omega
    · (obtain rfl:k=n:=by omega);have D:=hid (jMV b k x y c g.out F l1 (by omega) Q (by omega) l.out);have i:=hid (Blk.row0 a.out k k (by omega) (Nat.le_refl _) (by unfold maxLen;omega));go_wp2_with fail;refine (jDF _ k k b _ i.out g.out (by omega)).mono ?_;rintro e w4 ⟨j,hj,E,rfl,o⟩;have C:Hid (Below G X w4):=K.out.trans (o.mono (by omega));have Z:=hid (B.out.below C.out (by omega));have z1:=Z.out.cell 0 _ rfl;have z2:=Z.out.frozen 0;have M:=hid (jBZ i.out hj E D.out o);clear o E;go_wp2;refine bodyPost_ret (v:=.agg #[.slice (some ⟨G,0,none⟩) j k]) (by simp[results,Tryz.results122,go_sem,z1]) rfl ⟨_,rfl,⟨_,_,_,rfl,M.out.other _ _ _ Z.out (by decide)⟩,?_⟩;exact (s.out.trans (C.out.mono (by omega))).setCell (by simp;omega) _
theorem jKL (ao bo:Option Addr)(n capa m capb:Nat)(x y:Nat)(w:World)(hr:Row w ao n capa (zA x))(hs:Row w bo m capb (zA y))(hn:n<=50000)(hm:m<=50000):Calls Tryz.prog 122 #[.agg #[.slice ao n capa],.agg #[.slice bo m capb]] w fun e w'=>∃ v,e = .returned v/\Num w' v (x - y)/\Below w.heap.size w w':=by
 by_cases h:x<=y
 ·exact sub_le ao bo n capa m capb x y w hr hs hn hm h
 ·exact jNK ao bo n capa m capb x y w hr hs hn hm (by omega)
theorem jGH (xs:List Int)(k t:Nat)(v:Int)(h:t≠k):lm (xs.set k v) t=lm xs t:=by
 unfold lm;simp[List.getElem?_set,Ne.symm h]
theorem jCx (n t:Nat):lm (List.replicate n 0) t=0:=by
 unfold lm;rw[List.getD_eq_getElem?_getD];by_cases h:t<n
 ·simp[h]
 ·rw[List.getElem?_eq_none (by simp;omega)];rfl
theorem jDU (n:Nat):val (List.replicate n 0)=0:=by
 induction n with
 | zero=>rfl
 | succ n ih=>simp[List.replicate_succ,val,ih]
theorem jMr (o A:List Int)(i m:Nat)(Y c:Int)(hk:i+m<o.length)(h0:lm o (i+m)=0)(h:val o+10000 ^ (i+m)*c=val (A.take i)*Y+10000 ^ i*(lm A i*Y)):val (o.set (i+m) c)=val (A.take (i+1))*Y:=by
 rw[jHe o _ _ hk,h0,jAP];generalize (10000:Int) ^ (i+m)=P at *;generalize (10000:Int) ^ i=R at *
 grind
theorem jA9 (ao bo:Option Addr)(n capa m capb:Nat)(x y:Nat)(w:World)(hr:Row w ao n capa (zA x))(hs:Row w bo m capb (zA y))(hnm:n+m<=60000):Calls Tryz.prog 118 #[.agg #[.slice ao n capa],.agg #[.slice bo m capb]] w fun e w'=>∃ v,e = .returned v/\Num w' v (x*y)/\Below w.heap.size w w':=by
  have l1:=hr.len;have l2:=hs.len;have X:=hid (hr);have Y:=hid (hs);obtain ⟨c1,c2,c3,c5⟩:=boxes3 w #[.slice ao n capa] #[.slice bo m capb] #[.slice none 0 0] 116 116 116;have H5:=hid (c5);have X1:=hid (c1);have X2:=hid (c2);have X3:=hid (c3);clear hr hs c5 c1 c2 c3;go_enter Tryz.func118,Tryz.ntmps118;go_wp2_with (at_make;refine jAi _ rfl _ _ rfl _ _ (n+m) rfl rfl (by omega) (by omega) (by omega) ?_);intro M B g U;have Y1:=hid (X1.out.below g (by omega));have Y2:=hid (X2.out.below g (by omega));have Y3:=hid (X3.out.below g (by omega));have k1:=Y1.out.cell 0 _ rfl;have z:Hid (Below w.heap.size w M):=H5.out.trans (g.mono (by omega));have D:=hid (B);obtain ⟨G,hG⟩:∃ G,G=w.heap.size+1+1+1:=⟨_,rfl⟩;(have aj:w.heap.size+1+1+1<=G:=by omega);rw[<- hG] at B g U D ⊢;clear g B hG X1 X2 X3;go_wp2
  go_loopw [23] (fun vi wr => ∃ (k : Nat) (f : List Int), k <= n /\ vi = .int .i64 k /\ f.length = n + m /\ Hid (yg f) /\
      Hid (val f = val ((zA x).take k) * (y : Int)) /\ Hid (∀ t, k + m <= t -> lm f t = 0) /\ Hid (Blk wr G f) /\ Hid (Below G M wr)) (fun vi _ => n - (intOf vi).toNat)
  case atStart=>exact ⟨0,_,Nat.zero_le _,rfl,by simp,jBV _,by simp[Hid,val,jDU],fun t _=>jCx _ t,D.out,Below.refl _ _⟩
  case round=>
    obtain ⟨k,f,hk,rfl,T,q,u,C,h,L⟩:=hrel;have q2:=(Y2.out.below L.out (by omega)).cell 0 _ rfl;have HB:Hid (Below w.heap.size w wr):=z.out.trans (L.out.mono (by omega));have ai:G<wr.heap.size:=h.out.lt;by_cases ab:k<n
    · obtain ⟨P,V,rfl,R⟩:=X.out.head (by omega);have d1:wr.cell? ⟨P,V+k,none⟩=some (.int .i64 (lm (zA x) k)):=(HB.out.cell (p:=⟨P,V+k,none⟩) R).trans (X.out.cell P V rfl k (by omega));obtain ⟨ag,ah⟩:=jAM (jAJ x) k;go_wp2
      go_loopw [8, 31] (fun vc vj wq => ∃ (j : Nat) (c : Int) (o : List Int), j <= m /\ vj = .int .i64 j /\ vc = .int .i64 c /\ 0 <= c /\ c < 10000 /\ o.length = n + m /\ Hid (yg o) /\
          Hid (val o + 10000 ^ (k + j) * c = val ((zA x).take k) * (y : Int) + 10000 ^ k * (lm (zA x) k * val ((zA y).take j))) /\ Hid (∀ t, k + m <= t -> lm o t = 0) /\ Hid (Blk wq G o) /\ Hid (Below G M wq)) (fun _ vj _ => m - (intOf vj).toNat)
      case atStart=>exact ⟨0,0,f,Nat.zero_le _,rfl,rfl,by omega,by omega,T,q.out,by simp[Hid,val,u.out],C.out,h.out,L.out⟩
      case round=>
        obtain ⟨j,c,o,hj,rfl,rfl,F,H,r,b,i,d,a,l⟩:=hrel;have N:Hid (Below w.heap.size w wr):=z.out.trans (l.out.mono (by omega));have aa:G<wr.heap.size:=a.out.lt;by_cases ad:j<m
        · obtain ⟨Q,W,rfl,S⟩:=Y.out.head (by omega);have d2:wr.cell? ⟨Q,W+j,none⟩=some (.int .i64 (lm (zA y) j)):=(N.out.cell (p:=⟨Q,W+j,none⟩) S).trans (Y.out.cell Q W rfl j (by omega));have g1:=a.out.cell (k+j) (by omega);have g2:=a.out.frozen (k+j);obtain ⟨p1,p2,p3,p4⟩:=jJB (lm o (k+j)) (lm (zA x) k) (lm (zA y) j) c (jAM b.out _) (jAM (jAJ x) _) (jAM (jAJ y) _) ⟨F,H⟩;obtain ⟨ae,af⟩:=jAM b.out (k+j);clear d1 q2;go_wp2
          go_roundw
          (case rel=>exact ⟨j+1,_,_,by omega,by go_num,rfl,by omega,by omega,by simpa using r,jB4 b.out (k+j) _ (by omega) (by omega),jK2 o (zA y) k j (lm (zA x) k) c _ _ (by omega) rfl i.out,fun t ht=>(jGH o (k+j) t _ (by omega)).trans (d.out t ht),a.out.set (k+j) _,l.out.setCell (Nat.le_refl _) _⟩);case measure=>simp[intOf];omega
        · (obtain rfl:j=m:=by omega);have q3:=(Y2.out.below l.out (by omega)).cell 0 _ rfl;have g1:=a.out.cell (k+j) (by omega);have g2:=a.out.frozen (k+j);(have K:val ((zA y).take j)=(y:Int):=by rw[List.take_of_length_le (by omega),jAg]);have hE:=hid (jMr o (zA x) k j y c (by omega) (d.out _ (Nat.le_refl _)) (by rw[i.out,K]));clear K d1 q2;go_wp2
          go_roundw
          (case rel=>exact ⟨k+1,_,by omega,by go_num,by simpa using r,jB4 b.out (k+j) c F H,hE.out,fun t ht=>(jGH o (k+j) t _ (by omega)).trans (d.out t (by omega)),a.out.set (k+j) _,l.out.setCell (Nat.le_refl _) _⟩);case measure=>simp[intOf];omega
    · (obtain rfl:k=n:=by omega);(have I:Hid ((val f).toNat=x*y):=by unfold Hid;rw[u.out,List.take_of_length_le (by omega),jAg];(have:(x:Int)*(y:Int)=((x*y:Nat):Int):=by simp);omega);have s:=hid (Blk.row0 h.out (k+m) (k+m) (by omega) (Nat.le_refl _) (by unfold maxLen;omega));go_wp2_with fail;refine (jDF _ (k+m) (k+m) f _ s.out q.out (by omega)).mono ?_;rintro e w4 ⟨j,hj,J,rfl,A⟩;have E:Hid (Below G M w4):=L.out.trans (A.mono (by omega));have Z:=hid (Y3.out.below E.out (by omega));have z1:=Z.out.cell 0 _ rfl;have z2:=Z.out.frozen 0;have O:=hid (jBZ s.out hj J I.out A);clear A J;go_wp2;refine bodyPost_ret (v:=.agg #[.slice (some ⟨G,0,none⟩) j (k+m)]) (by simp[results,Tryz.results118,go_sem,z1]) rfl ⟨_,rfl,⟨_,_,_,rfl,O.out.other _ _ _ Z.out (by decide)⟩,?_⟩;exact (z.out.trans (E.out.mono (by omega))).setCell (by simp;omega) _
end Go.Proofs.YtigokanoflkinabGreatDoor
