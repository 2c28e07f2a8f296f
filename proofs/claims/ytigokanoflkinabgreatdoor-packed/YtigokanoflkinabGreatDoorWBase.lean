/- Base, WTrim, WNatA, WAdd, WSub, WMul, joined. -/
import Derived.Test.YtigokanoflkinabGreatDoorRows
import Derived.Test.YtigokanoflkinabGreatDoorPure
import Derived.WalkKit
import Derived.WalkSpells
import Derived.WalkLawsBesides
import Derived.BigQuiet
import Derived.Deep.QuietTactic
set_option maxHeartbeats 1000000
set_option maxRecDepth 10000
namespace Go.Proofs.YtigokanoflkinabGreatDoor
set_option linter.unusedSimpArgs false
set_option linter.unusedVariables false
open Go.RowKit Por
theorem hid {p:Prop}(h:p):Hid p:=h
def IntBlk (w:World)(b:Nat):Prop:=∃ arr fz,w.heap[b]? = some (.cells arr 3 fz)
structure Row (w:World)(ao:Option Addr)(n cap:Nat)(xs:List Int):Prop where
  len:xs.length=n
  le:n≤cap
  cm:cap≤maxLen
  head:0<n→∃ b o,ao=some ⟨b,o,none⟩∧b<w.heap.size
  ib:∀ b o,ao=some ⟨b,o,none⟩→0<n→IntBlk w b
  cell:∀ b o,ao=some ⟨b,o,none⟩→∀ j,j<n→w.cell? ⟨b,o+j,none⟩=some (.int .i64 (lm xs j))
theorem IntBlk.lt {w:World}{b:Nat}(h:IntBlk w b):b<w.heap.size:=by
 obtain ⟨arr,fz,h⟩:=h;exact (Array.getElem?_eq_some_iff.1 h).1
theorem Row.below {w w':World}{ao:Option Addr}{n cap:Nat}{xs:List Int}(h:Row w ao n cap xs)(hb:Below w.heap.size w w'):Row w' ao n cap xs:=by
 refine ⟨h.len,h.le,h.cm,fun hn=>?_,fun b o e hn=>?_,fun b o e j hj=>?_⟩
 ·obtain ⟨b,o,e,hlt⟩:=h.head hn;exact ⟨b,o,e,Nat.lt_of_lt_of_le hlt hb.size⟩
 ·obtain ⟨arr,fz,hh⟩:=h.ib b o e hn;exact ⟨arr,fz,(hb.block b (Array.getElem?_eq_some_iff.1 hh).1).trans hh⟩
 ·obtain ⟨b',o',e',hlt⟩:=h.head (by omega);rw[e] at e';cases e';exact (hb.cell (p:=⟨b,o+j,none⟩) hlt).trans (h.cell b o e j hj)
theorem Row.nil (w:World):Row w none 0 0 []:=⟨rfl,Nat.le_refl _,Nat.zero_le _,fun h=>by omega,fun b o e=>(by cases e),fun b o e=>(by cases e)⟩
theorem Row.take {w:World}{ao:Option Addr}{n cap:Nat}{xs:List Int}(h:Row w ao n cap xs)(m:Nat)(hm:m≤n):Row w ao m cap (xs.take m):=by
 refine ⟨?_,Nat.le_trans hm h.le,h.cm,fun h0=>h.head (by omega),fun b o e h0=>h.ib b o e (by omega),fun b o e j hj=>?_⟩
 ·rw[List.length_take,h.len];omega
 ·rw[h.cell b o e j (by omega)];simp[lm,List.getD_eq_getElem?_getD,List.getElem?_take,hj]
def Bx (w:World)(b:Nat)(cs:Array Value)(T:TypeId):Prop:=w.heap[b]? = some (.cells cs T (0,0))
theorem Bx.lt {w:World}{b:Nat}{cs:Array Value}{T:TypeId}(h:Bx w b cs T):b<w.heap.size:=(Array.getElem?_eq_some_iff.1 h).1
theorem Bx.cell {w:World}{b:Nat}{cs:Array Value}{T:TypeId}(h:Bx w b cs T)(j:Nat)(v:Value)(hv:cs[j]? = some v):w.cell? ⟨b,j,none⟩=some v:=(cell_of_row w b j _ _ _ h).trans hv
theorem Bx.frozen {w:World}{b:Nat}{cs:Array Value}{T:TypeId}(h:Bx w b cs T)(j:Nat):w.frozen? ⟨b,j,none⟩=false:=frozen_of_row w b j _ _ h
theorem Bx.below {B:Nat}{w w':World}{b:Nat}{cs:Array Value}{T:TypeId}(h:Bx w b cs T)(hb:Below B w w')(hB:b<B):Bx w' b cs T:=(hb.block b hB).trans h
theorem Bx.other {w:World}{b:Nat}{cs:Array Value}{T:TypeId}(h:Bx w b cs T)(a:Addr)(v:Value)(ha:a.block≠b):Bx (w.setCell a v) b cs T:=(heap_setCell_other w a b v (fun e=>ha e.symm)).trans h
theorem Row.other {w:World}{ao:Option Addr}{n cap:Nat}{xs:List Int}(h:Row w ao n cap xs)(b i:Nat)(v:Value){cs:Array Value}{T:TypeId}(hx:Bx w b cs T)(hT:T≠3):Row (w.setCell ⟨b,i,none⟩ v) ao n cap xs:=by
 (have key:∀ b' o,ao=some ⟨b',o,none⟩→0<n→b'≠b:=by intro b' o e hn hc;subst hc;obtain ⟨arr,fz,hh⟩:=h.ib b' o e hn;unfold Bx at hx;rw[hx] at hh;cases hh;exact hT rfl);refine ⟨h.len,h.le,h.cm,fun hn=>?_,fun b' o e hn=>?_,fun b' o e j hj=>?_⟩
 ·obtain ⟨b,o,e,hlt⟩:=h.head hn;exact ⟨b,o,e,by simpa [World.setCell] using hlt⟩
 ·obtain ⟨arr,fz,hh⟩:=h.ib b' o e hn;exact ⟨arr,fz,(Below.heap_setCell w _ v b' (key b' o e hn)).trans hh⟩
 ·rw[← h.cell b' o e j hj];exact World.cell?_of_block (Below.heap_setCell w _ v b' (key b' o e (by omega)))
def Blk (w:World)(g:Nat)(zs:List Int):Prop:=w.heap[g]? = some (.cells (zs.map (Value.int .i64)).toArray 3 (0,0))
theorem Blk.lt {w:World}{g:Nat}{zs:List Int}(h:Blk w g zs):g<w.heap.size:=by
 unfold Blk at h;exact (Array.getElem?_eq_some_iff.1 h).1
theorem Blk.cell {w:World}{g:Nat}{zs:List Int}(h:Blk w g zs)(j:Nat)(hj:j<zs.length):w.cell? ⟨g,j,none⟩=some (.int .i64 (lm zs j)):=by
 rw[cell_of_row w g j _ _ _ h];simp[lm,hj]
theorem Blk.frozen {w:World}{g:Nat}{zs:List Int}(h:Blk w g zs)(j:Nat):w.frozen? ⟨g,j,none⟩=false:=frozen_of_row w g j _ _ h
theorem Blk.set {w:World}{g:Nat}{zs:List Int}(h:Blk w g zs)(j:Nat)(v:Int):Blk (w.setCell ⟨g,j,none⟩ (.int .i64 v)) g (zs.set j v):=by
 unfold Blk;rw[heap_setCell_same w g j _ _ _ h];simp[List.map_set]
theorem Blk.below {B:Nat}{w w':World}{g:Nat}{zs:List Int}(h:Blk w g zs)(hb:Below B w w')(hg:g<B):Blk w' g zs:=(hb.block g hg).trans h
theorem Blk.other {w:World}{g:Nat}{zs:List Int}(h:Blk w g zs)(a:Addr)(v:Value)(ha:a.block≠g):Blk (w.setCell a v) g zs:=(heap_setCell_other w a g v (fun e=>ha e.symm)).trans h
theorem Blk.row {w:World}{g:Nat}{zs:List Int}(h:Blk w g zs)(o n cap:Nat)(hn:o+n≤zs.length)(hc:n≤cap)(hm:cap≤maxLen):Row w (some ⟨g,o,none⟩) n cap ((zs.drop o).take n):=by
 refine ⟨by simp;omega,hc,hm,fun _=>⟨_,_,rfl,h.lt⟩,fun b o' e _=>(by cases e;exact ⟨_,_,h⟩),fun b o' e j hj=>?_⟩
 cases e
 rw[h.cell (o+j) (by omega)];simp[lm,List.getElem?_take,hj]
theorem Blk.row0 {w:World}{g:Nat}{zs:List Int}(h:Blk w g zs)(n cap:Nat)(hn:n=zs.length)(hc:n≤cap)(hm:cap≤maxLen):Row w (some ⟨g,0,none⟩) n cap zs:=by
 have:=h.row 0 n cap (by omega) hc hm
 rwa [List.drop_zero,List.take_of_length_le (by omega)] at this
theorem Tryz.infoInt:(Tryz.prog.info? 3).map (fun i=>(i.zero,i.size,i.bytes))=some (some (.int .i64 0),1,8):=by kernel_rfl
theorem jAf (w:World){ops:Array Oper}{rest:List Oper}{o:Oper}{a:Act}{Q:Exit→Act→World→Prop}(hg:o.guard=none)(l c:Operand)(hop:o.op=Op.makeSlice 28 l c)(L C:Int)(n:Nat)(hl:a.eval l = .int .i64 L)(hc:a.eval c = .int .i64 C)(hL:L=(n:Int))(hC:C=(n:Int))(hn:n≤1000000)(hK:∀ w',Blk w' w.heap.size (List.replicate n 0)→Below w.heap.size w w'→w.heap.size<w'.heap.size→wpList Tryz.prog ops Q rest (a.put o.dst (.slice (some ⟨w.heap.size,0,none⟩) n n)) w'):wpList Tryz.prog ops Q (o :: rest) a w:=by
 obtain ⟨i,hi,hz0,hz1,hz2⟩:=info_parts Tryz.infoInt;refine wpList_make_full w hg l c 28 hop w.heap.size 3 i (.int .i64 0) 1 Tryz.underlying28 hi hz0 hz1 .i64 .i64 L C n hl hc hL hC (by rw[hz2];omega) (by unfold maxLen;omega) (Nat.le_refl _) ?_;intro w' ho hgr;have hb:Below w.heap.size w w':=(Below.refl _ _).grown hgr (Nat.le_refl _) (fun k e=>by cases e);rcases ho.2 with ⟨h',_⟩ | ⟨g,cap,cur,h',_,hh,h1,h2,h3,h4⟩
 ·cases h'
 ·simp only[Value.slice.injEq,Option.some.injEq,Addr.mk.injEq,and_true,true_and] at h';obtain ⟨rfl,rfl⟩:=h';(have e:cur=((List.replicate n (0:Int)).map (Value.int .i64)).toArray:=by apply Array.toList_inj.1;rw[Nat.mul_one] at h4 h3;rw[List.take_of_length_le (by rw[Array.length_toList];omega)] at h4;rw[h4,show (Value.int .i64 0).cells=#[.int .i64 0] from rfl,toList_madeCells_one];simp);rw[e] at hh;exact hK w' hh hb (Blk.lt hh)
theorem jAC (w:World)(cs:Array Value)(T:TypeId):Bx (w.alloc (.cells cs T)) w.heap.size cs T:=heap_alloc_new w _
theorem jAB {w:World}{b:Nat}{cs:Array Value}{T:TypeId}(h:Bx w b cs T)(o:Obj):Bx (w.alloc o) b cs T:=(Below.heap_alloc w o b h.lt).trans h
theorem boxes2 (w:World)(a b:Array Value)(T U:TypeId):Bx ((w.alloc (.cells a T)).alloc (.cells b U)) w.heap.size a T∧Bx ((w.alloc (.cells a T)).alloc (.cells b U)) (w.heap.size+1) b U∧Below w.heap.size w ((w.alloc (.cells a T)).alloc (.cells b U)):=by
 (have s1:(w.alloc (.cells a T)).heap.size=w.heap.size+1:=by simp);refine ⟨jAB (jAC _ _ _) _,?_,((Below.refl _ _).alloc (Nat.le_refl _) _).alloc (by simp) _⟩;have:=jAC (w.alloc (.cells a T)) b U;rwa [s1] at this
theorem boxes3 (w:World)(a b c:Array Value)(T U V:TypeId):Bx (((w.alloc (.cells a T)).alloc (.cells b U)).alloc (.cells c V)) w.heap.size a T∧Bx (((w.alloc (.cells a T)).alloc (.cells b U)).alloc (.cells c V)) (w.heap.size+1) b U∧Bx (((w.alloc (.cells a T)).alloc (.cells b U)).alloc (.cells c V)) (w.heap.size+1+1) c V∧Below w.heap.size w (((w.alloc (.cells a T)).alloc (.cells b U)).alloc (.cells c V)):=by
 obtain ⟨h1,h2,h3⟩:=boxes2 w a b T U;(have s2:((w.alloc (.cells a T)).alloc (.cells b U)).heap.size=w.heap.size+1+1:=by simp);refine ⟨jAB h1 _,jAB h2 _,?_,h3.alloc (by rw[s2];omega) _⟩;have:=jAC ((w.alloc (.cells a T)).alloc (.cells b U)) c V;rwa [s2] at this
theorem jCf (ao:Option Addr)(n cap:Nat)(xs:List Int)(w:World)(hr:Row w ao n cap xs)(hL:Lim xs)(hn:n≤60000):Calls Tryz.prog 142 #[.slice ao n cap] w fun e w'=>∃ m,m≤n∧xs.take m=limbs (val xs).toNat∧e = .returned (.agg #[.slice ao m cap])∧Below w.heap.size w w':=by
  have hlen:=hr.len;have hle:=hr.le;have hcm:=hr.cm;unfold maxLen at hcm;go_enter Tryz.func142,Tryz.ntmps142;go_wp2
  go_loop[3] (fun v=>∃ m:Nat,m≤n∧v = .int .i64 m∧Hid (∀ i,m≤i→i<xs.length→lm xs i=0)) (fun v=>(intOf v).toNat)
  case atStart=>exact ⟨n,Nat.le_refl _,rfl,fun i h1 h2=>by omega⟩
  case round=>
    obtain ⟨m,hm,rfl,hz⟩:=hrel;by_cases h0:m=0
    · subst h0;have E:=jIr xs 0 hL (by omega) (fun i h1 h2=>hz.out i h1 h2) (.inl rfl);have HE:=hid (E);clear E;go_wp2;refine bodyPost_ret (v:=.agg #[.slice ao 0 cap]) (by simp[results,Tryz.results142,go_sem]) rfl ⟨0,by omega,HE.out,rfl,?_⟩;exact ((Below.refl _ _).alloc (Nat.le_refl _) _)
    · obtain ⟨b,o,rfl,hlt⟩:=hr.head (by omega);have hc:=hr.cell b o rfl (m - 1) (by omega);obtain ⟨q,rfl⟩:∃ q,m=q+1:=⟨m - 1,by omega⟩;simp only[Nat.add_sub_cancel] at hc;by_cases hx:lm xs q=0
      · rw[hx] at hc;have hx':=hid (hx);clear hr hx;go_wp2
        exact ⟨⟨q, by omega, rfl, fun i h1 h2 => by
          by_cases e : i = q
          · rw [e]; exact hx'.out
          · exact hz.out i (by omega) h2⟩, by simp [intOf]⟩
      · (have hx0:(lm xs q == 0)=false:=by simpa using hx);have E:=jIr xs (q+1) hL (by omega) (fun i h1 h2=>hz.out i h1 h2) (.inr hx);have HE:=hid (E);clear E;clear hr;go_wp2;refine bodyPost_ret (v:=.agg #[.slice (some ⟨b,o,none⟩) (q+1) cap]) (by simp[results,Tryz.results142,go_sem]) rfl ⟨q+1,by omega,HE.out,rfl,?_⟩;exact ((Below.refl _ _).alloc (Nat.le_refl _) _)
def Num (w:World)(v:Value)(m:Nat):Prop:=∃ ao n cap,v = .agg #[.slice ao n cap]∧Row w ao n cap (limbs m)
theorem Num.below {w w':World}{v:Value}{m:Nat}(h:Num w v m)(hb:Below w.heap.size w w'):Num w' v m:=by
 obtain ⟨ao,n,cap,rfl,hr⟩:=h;exact ⟨ao,n,cap,rfl,hr.below hb⟩
theorem jEt (ao:Option Addr)(n cap i:Nat)(xs:List Int)(w:World)(hr:Row w ao n cap xs)(hn:n≤60000)(hi:i≤60000):Calls Tryz.prog 143 #[.agg #[.slice ao n cap],.int .i64 i] w fun e w'=>e = .returned (.int .i64 (lm xs i))∧Below w.heap.size w w':=by
 by_cases h:i<n
 ·obtain ⟨b,o,rfl,hlt⟩:=hr.head (by omega);have hc:=hr.cell b o rfl i h;clear hr;go_enter Tryz.func143,Tryz.ntmps143;go_wp2;go_ret;exact ⟨rfl,(Below.refl _ _).alloc (Nat.le_refl _) _⟩
 ·(have e:lm xs i=0:=by have:=hr.len;unfold lm;rw[List.getD_eq_getElem?_getD,List.getElem?_eq_none (by omega)];rfl);rw[e];clear hr e;go_enter Tryz.func143,Tryz.ntmps143;go_wp2;go_ret;exact ⟨rfl,(Below.refl _ _).alloc (Nat.le_refl _) _⟩
def isZ (m:Nat):Bool:=m == 0
theorem jAT (ao:Option Addr)(n cap:Nat)(m:Nat)(w:World)(hr:Row w ao n cap (limbs m))(hn:n≤60000):Calls Tryz.prog 131 #[.agg #[.slice ao n cap]] w fun e w'=>e = .returned (.bool (isZ m))∧Below w.heap.size w w':=by
 (have e:isZ m=((n:Int) == 0):=by have h1:=hr.len;have h2:=@jDe m;unfold isZ;rw[Bool.eq_iff_iff,beq_iff_eq,beq_iff_eq,← h2,← List.length_eq_zero_iff,h1];omega);rw[e];clear hr e;go_enter Tryz.func131,Tryz.ntmps131;go_wp2;go_ret;exact ⟨rfl,(Below.refl _ _).alloc (Nat.le_refl _) _⟩
theorem jA0:limbs 1 = [1]:=by rw[jBM 1 (by omega),show 1 / 10000=0 from rfl,jAl];rfl
theorem jBn (w:World):Calls Tryz.prog 126 #[] w fun e w'=>∃ v,e = .returned v∧Num w' v 1∧Below w.heap.size w w':=by
 go_enter Tryz.func126,Tryz.ntmps126;go_wp2;refine bodyPost_ret (v:=.agg #[.slice (some ⟨w.heap.size+1,0,none⟩) 1 1]) (by simp[results,Tryz.results126,go_sem]) rfl ⟨_,rfl,⟨_,_,_,rfl,?_⟩,((Below.refl _ _).alloc (Nat.le_refl _) _).alloc (by simp) _⟩;rw[jA0];refine ⟨rfl,Nat.le_refl _,by decide,fun _=>⟨_,_,rfl,by simp⟩,fun b o e _=>(by cases e;exact ⟨_,_,(boxes2 w _ #[.int .i64 1] _ 3).2.1⟩),fun b o e j hj=>?_⟩
 cases e
 (obtain rfl:j=0:=by omega);simp[lm]
def cmp3 (a b:Int):Int:=if a<b then -1 else if a=b then 0 else 1
theorem jAQ (ao bo:Option Addr)(n capa m capb:Nat)(x y:Nat)(w:World)(hr:Row w ao n capa (limbs x))(hs:Row w bo m capb (limbs y))(hn:n≤60000)(hm:m≤60000):Calls Tryz.prog 121 #[.agg #[.slice ao n capa],.agg #[.slice bo m capb]] w fun e w'=>e = .returned (.int .i64 (cmp3 x y))∧Below w.heap.size w w':=by
  have l1:=hr.len;have l2:=hs.len;have vx:=jAb x;have vy:=jAb y;rcases Nat.lt_trichotomy n m with h | h | h
  · (have e:cmp3 x y = -1:=by have:=jCJ (jAI x) (jAI y) (jBW y) (by omega);unfold cmp3;rw[if_pos (by omega)]);rw[e];clear e hr hs l1 l2 vx vy;go_enter Tryz.func121,Tryz.ntmps121;go_wp2;go_ret;exact ⟨rfl,((Below.refl _ _).alloc (Nat.le_refl _) _).alloc (by simp) _⟩
  · subst h;have HR:=hid (hr);have HS:=hid (hs);have HX:=hid (vx);have HY:=hid (vy);(have h0:∀ b o,ao=some ⟨b,o,none⟩→0<n→b<w.heap.size:=fun b o e h=>by obtain ⟨b',o',e',hl⟩:=hr.head h;rw[e] at e';cases e';exact hl);(have g0:∀ b o,bo=some ⟨b,o,none⟩→0<n→b<w.heap.size:=fun b o e h=>by obtain ⟨b',o',e',hl⟩:=hs.head h;rw[e] at e';cases e';exact hl);clear hr hs vx vy;go_enter Tryz.func121,Tryz.ntmps121;go_wp2
    go_loopw [5] (fun v wr => ∃ k : Nat, k ≤ n ∧ v = .int .i64 ((k : Int) - 1) ∧ Hid (∀ j, k ≤ j → j < n → lm (limbs x) j = lm (limbs y) j) ∧
        Below (w.heap.size + 2) ((w.alloc (.cells #[.slice ao n capa] 116)).alloc (.cells #[.slice bo n capb] 116)) wr) (fun v _ => (intOf v + 1).toNat)
    case atStart=>exact ⟨n,Nat.le_refl _,rfl,fun j h1 h2=>by omega,Below.refl _ _⟩
    case round=>
      obtain ⟨k,hk,rfl,hz,hb⟩:=hrel;have hB:Below w.heap.size w wr:=(((Below.refl _ _).alloc (Nat.le_refl _) _).alloc (by simp) _).trans (hb.mono (by omega));have HB:=hid (hB);have c1:wr.cell? ⟨w.heap.size,0,none⟩=some (.slice ao n capa):=(hb.cell (p:=⟨w.heap.size,0,none⟩) (by simp)).trans (by simp);have c2:wr.cell? ⟨w.heap.size+1,0,none⟩=some (.slice bo n capb):=(hb.cell (p:=⟨w.heap.size+1,0,none⟩) (by simp)).trans (by simp);have Hb:=hid (hb);clear hb;by_cases k0:k=0
      · subst k0;(have e:cmp3 x y=0:=by have:=jHD n l1 l2 (fun i hi=>hz.out i (by omega) hi);(have:(x:Int)=y:=by rw[← HX.out,← HY.out,this]);unfold cmp3;rw[if_neg (by omega),if_pos this]);clear hB;go_wp2;go_ret;exact ⟨by rw[e];rfl,HB.out⟩
      · obtain ⟨q,rfl⟩:∃ q,k=q+1:=⟨k - 1,by omega⟩;obtain ⟨ba,oa,rfl,hla⟩:=HR.out.head (by omega);obtain ⟨bb,ob,rfl,hlb⟩:=HS.out.head (by omega);have d1:wr.cell? ⟨ba,oa+q,none⟩=some (.int .i64 (lm (limbs x) q)):=(hB.cell (p:=⟨ba,oa+q,none⟩) hla).trans (HR.out.cell ba oa rfl q (by omega));have d2:wr.cell? ⟨bb,ob+q,none⟩=some (.int .i64 (lm (limbs y) q)):=(hB.cell (p:=⟨bb,ob+q,none⟩) hlb).trans (HS.out.cell bb ob rfl q (by omega));clear hB;(have hq1:(0:Int)≤((q+1:Nat):Int) - 1:=by omega);rcases Int.lt_trichotomy (lm (limbs x) q) (lm (limbs y) q) with hlt | heq | hgt
        · (have e:cmp3 x y = -1:=by have:=jCg _ _ (jAI x) (jAI y) n l1 l2 q (by omega) (fun i h1 h2=>hz.out i (by omega) h2) hlt;rw[HX.out,HY.out] at this;unfold cmp3;rw[if_pos this]);have He:=hid (e);clear e;go_wp2;go_quiet (fail);go_wp2;go_ret;exact ⟨by rw[He.out];rfl,below_drewN HB.out _⟩
        · (have hlt1:¬ lm (limbs x) q<lm (limbs y) q:=by omega);(have hlt2:¬ lm (limbs y) q<lm (limbs x) q:=by omega);have He:=hid (heq);clear heq;go_wp2;go_quiet (fail);go_wp2;go_quiet (fail);go_wp2
          go_roundw
          case rel => exact ⟨q, by omega, by go_num, fun j h1 h2 => (by
            by_cases e : j = q
            · rw [e]; exact He.out
            · exact hz.out j (by omega) h2), below_drewN Hb.out _⟩
          case measure=>simp[intOf]
        · (have hlt1:¬ lm (limbs x) q<lm (limbs y) q:=by omega);(have e:cmp3 x y=1:=by have:=jCg _ _ (jAI y) (jAI x) n l2 l1 q (by omega) (fun i h1 h2=>(hz.out i (by omega) h2).symm) hgt;rw[HX.out,HY.out] at this;unfold cmp3;rw[if_neg (by omega),if_neg (by omega)]);have He:=hid (e);clear e;go_wp2;go_quiet (fail);go_wp2;go_quiet (fail);go_wp2;go_ret;exact ⟨by rw[He.out];rfl,by first | exact below_drewN HB.out _ | exact below_drewN (below_drewN HB.out _) _⟩
  · (have e:cmp3 x y=1:=by have:=jCJ (jAI y) (jAI x) (jBW x) (by omega);unfold cmp3;rw[if_neg (by omega),if_neg (by omega)]);rw[e];clear e hr hs l1 l2 vx vy;go_enter Tryz.func121,Tryz.ntmps121;go_wp2;go_ret;exact ⟨rfl,((Below.refl _ _).alloc (Nat.le_refl _) _).alloc (by simp) _⟩
theorem jLe (o:List Int)(n x y:Nat)(c:Int)(hlen:o.length=n+1)(hx:(limbs x).length=n)(hy:(limbs y).length≤n)(h:val (o.take n)+10000 ^ n*c=val ((limbs x).take n)+val ((limbs y).take n)):(val (o.set n c)).toNat=x+y:=by
 have e:(o.set n c).take (n+1)=o.set n c:=List.take_of_length_le (by simp;omega);rw[← e,jBC o n c (by omega),h,List.take_of_length_le (by omega),List.take_of_length_le (by omega),jAb,jAb];omega
theorem jBR {w w':World}{ao:Option Addr}{n cap m:Nat}{xs:List Int}{z:Nat}(hr:Row w ao n cap xs)(hm:m≤n)(he:xs.take m=limbs (val xs).toNat)(hz:(val xs).toNat=z)(hb:Below w.heap.size w w'):Row w' ao m cap (limbs z):=by
 have:=(hr.take m hm).below hb
 rwa [he,hz] at this
theorem jK0 (ao bo:Option Addr)(n capa m capb:Nat)(x y:Nat)(w:World)(hr:Row w ao n capa (limbs x))(hs:Row w bo m capb (limbs y))(hn:n≤50000)(hm:m≤n):Calls Tryz.prog 119 #[.agg #[.slice ao n capa],.agg #[.slice bo m capb]] w fun e w'=>∃ v,e = .returned v∧Num w' v (x+y)∧Below w.heap.size w w':=by
  have l1:=hr.len;have l2:=hs.len;have HR:=hid (hr);have HS:=hid (hs);(have hlt:¬ (n:Int)<(m:Int):=by omega);clear hr hs;go_enter Tryz.func119,Tryz.ntmps119;go_wp2_with (at_make;refine jAf _ rfl _ _ rfl _ _ (n+1) rfl rfl (by omega) (by omega) (by omega) ?_);intro w1 hk1 hb1 hz1;obtain ⟨c1,c2,c3,c5⟩:=boxes3 w #[.slice ao n capa] #[.slice bo m capb] #[.slice none 0 0] 116 116 116;have X1:=hid (c1.below hb1 (by omega));have X2:=hid (c2.below hb1 (by omega));have X3:=hid (c3.below hb1 (by omega));have k1:=X1.out.cell 0 _ rfl;have bW:Below w.heap.size w w1:=c5.trans (hb1.mono (by omega));clear c1 c2 c3 c5;have HB1:=hid (bW);have HK1:=hid (hk1);clear hb1 bW hk1;go_wp2
  go_loopw [6, 28] (fun vc vi wr => ∃ (k : Nat) (c : Int) (out : List Int), k ≤ n ∧ vi = .int .i64 k ∧ vc = .int .i64 c ∧ 0 ≤ c ∧ c ≤ 1 ∧ out.length = n + 1 ∧ Hid (Lim out) ∧
      Hid (val (out.take k) + 10000 ^ k * c = val ((limbs x).take k) + val ((limbs y).take k)) ∧ Hid (Blk wr (w.heap.size + 1 + 1 + 1) out) ∧ Hid (Below (w.heap.size + 3) w1 wr)) (fun _ vi _ => n - (intOf vi).toNat)
  case atStart=>exact ⟨0,0,_,Nat.zero_le _,rfl,rfl,by omega,by omega,by simp,jBJ _,by simp[Hid,val],HK1.out,Below.refl _ _⟩
  case round=>
    obtain ⟨k,c,out,hk,rfl,rfl,hc0,hc1,hol,hLim,hval,hblk,hb⟩:=hrel;have q1:=(X1.out.below hb.out (by omega)).cell 0 _ rfl;have q2:=(X2.out.below hb.out (by omega)).cell 0 _ rfl;have HB:Hid (Below w.heap.size w wr):=HB1.out.trans (hb.out.mono (by omega));by_cases hlt2:k<n
    · obtain ⟨ba,oa,rfl,hla⟩:=HR.out.head (by omega);have d1:wr.cell? ⟨ba,oa+k,none⟩=some (.int .i64 (lm (limbs x) k)):=(HB.out.cell (p:=⟨ba,oa+k,none⟩) hla).trans (HR.out.cell ba oa rfl k (by omega));have hrs:Hid (Row wr bo m capb (limbs y)):=HS.out.below HB.out;have bx:=jAN (jAI x) k;(have by':=jAN (jAI y) k);obtain ⟨bx0,bx1⟩:=bx;(obtain ⟨by0,by1⟩:=by');have hgw:w.heap.size+1+1+1<wr.heap.size:=hblk.out.lt;go_wp2_with (go_at_call 143;refine (jEt bo m capb k (limbs y) _ hrs.out (by omega) (by omega)).mono ?_;rintro e w2 ⟨rfl,hb2⟩;have g1:=(hblk.out.below hb2 hgw).cell k (by omega);have g2:=(hblk.out.below hb2 hgw).frozen k;have Hb2:=hid (hb2);clear hb2)
      go_roundw
      (case rel=>refine ⟨k+1,_,_,by omega,by go_num,rfl,by omega,by omega,by simpa using hol,jBw hLim.out k _ (by omega) (by omega),jJ6 out (limbs x) (limbs y) k c _ (by omega) rfl hval.out,(hblk.out.below Hb2.out hgw).set k _,?_⟩;exact (hb.out.trans (Hb2.out.mono (by omega))).setCell (by show w.heap.size+3≤w.heap.size+1+1+1;omega) _);case measure=>simp[intOf];omega
    · (obtain rfl:k=n:=by omega);have g1:=hblk.out.cell k (by omega);have g2:=hblk.out.frozen k;have hend:=hid (jLe out k x y c hol l1 (by omega) hval.out);have hB2:=hid (hblk.out.set k c);have hrow:=hid (Blk.row0 hB2.out (k+1) (k+1) (by simp;omega) (Nat.le_refl _) (by unfold maxLen;omega));have hL2:=hid (jBw hLim.out k c hc0 (by omega));have hgw:w.heap.size+1+1+1<wr.heap.size:=hblk.out.lt;go_wp2_with fail;refine (jCf _ (k+1) (k+1) (out.set k c) _ hrow.out hL2.out (by omega)).mono ?_;rintro e w2 ⟨j,hj,hj2,rfl,hb2⟩;have hbb:Hid (Below (w.heap.size+3) w1 w2):=(hb.out.setCell (by show w.heap.size+3≤w.heap.size+1+1+1;omega) _).trans (hb2.mono (by simp;omega));have Z:=hid (X3.out.below hbb.out (by omega));have z1:=Z.out.cell 0 _ rfl;have z2:=Z.out.frozen 0;have HR2:=hid (jBR hrow.out hj hj2 hend.out hb2);clear hb2 hj2;go_wp2;refine bodyPost_ret (v:=.agg #[.slice (some ⟨w.heap.size+1+1+1,0,none⟩) j (k+1)]) (by simp[results,Tryz.results119,go_sem,z1]) rfl ⟨_,rfl,⟨_,_,_,rfl,HR2.out.other _ _ _ Z.out (by decide)⟩,?_⟩;exact (HB1.out.trans (hbb.out.mono (by omega))).setCell (by simp;omega) _
theorem jIl (ao bo:Option Addr)(n capa m capb:Nat)(x y:Nat)(w:World)(hr:Row w ao n capa (limbs x))(hs:Row w bo m capb (limbs y))(hn:n≤50000)(hm:m≤50000):Calls Tryz.prog 119 #[.agg #[.slice ao n capa],.agg #[.slice bo m capb]] w fun e w'=>∃ v,e = .returned v∧Num w' v (x+y)∧Below w.heap.size w w':=by
 by_cases hlt:m≤n
 ·exact jK0 ao bo n capa m capb x y w hr hs hn hlt
 ·(have h1:(n:Int)<(m:Int):=by omega);obtain ⟨c1,c2,c3,c5⟩:=boxes3 w #[.slice ao n capa] #[.slice bo m capb] #[.slice none 0 0] 116 116 116;have hr1:=hid (hr.below c5);have hs1:=hid (hs.below c5);have H5:=hid (c5);have X3:=hid (c3);clear hr hs c5 c1 c2 c3;go_enter Tryz.func119,Tryz.ntmps119;go_wp2_with fail;refine (jK0 bo ao m capb n capa y x _ hs1.out hr1.out hm (by omega)).mono ?_;rintro e w2 ⟨v,rfl,⟨ro,rn,rcap,rfl,hrow⟩,hb2⟩;have Z:=hid (X3.out.below hb2 X3.out.lt);have z1:=Z.out.cell 0 _ rfl;have z2:=Z.out.frozen 0;have HB2:=hid (hb2);have HR2:=hid (hrow);clear hb2 hrow;go_wp2;refine bodyPost_ret (v:=.agg #[.slice ro rn rcap]) (by simp[results,Tryz.results119,go_sem,z1]) rfl ⟨_,rfl,⟨_,_,_,rfl,?_⟩,?_⟩
  ·rw[Nat.add_comm x y];exact HR2.out.other _ _ _ Z.out (by decide)
  ·exact (H5.out.trans (HB2.out.mono (by simp;omega))).setCell (by simp;omega) _
theorem jLc (o:List Int)(n x y:Nat)(b:Int)(hL:Lim o)(hlen:o.length=n)(hx:(limbs x).length=n)(hy:(limbs y).length≤n)(hb:0≤b)(hxy:y≤x)(h:val (o.take n) - 10000 ^ n*b=val ((limbs x).take n) - val ((limbs y).take n)):(val o).toNat=x - y:=by
 rw[List.take_of_length_le (by omega),List.take_of_length_le (by omega),List.take_of_length_le (by omega),jAb,jAb] at h;have h1:=jCp hL;rw[hlen] at h1;have h2:=jAY hL
 have h3:b=0:=by
  by_cases e:b=0
  ·exact e
  ·have:(10000:Int) ^ n*1≤10000 ^ n*b:=Int.mul_le_mul_of_nonneg_left (by omega) (by omega);omega
 subst h3;omega
theorem jLW (x y:Nat)(h:x≤y):cmp3 x y≤0:=by unfold cmp3;split <;> (try split) <;> omega
theorem jLo (x y:Nat)(h:y<x):cmp3 x y=1:=by unfold cmp3;rw[if_neg (by omega),if_neg (by omega)]
theorem sub_le (ao bo:Option Addr)(n capa m capb:Nat)(x y:Nat)(w:World)(hr:Row w ao n capa (limbs x))(hs:Row w bo m capb (limbs y))(hn:n≤50000)(hm:m≤50000)(hxy:x≤y):Calls Tryz.prog 122 #[.agg #[.slice ao n capa],.agg #[.slice bo m capb]] w fun e w'=>∃ v,e = .returned v∧Num w' v (x - y)∧Below w.heap.size w w':=by
 obtain ⟨c1,c2,c3,c5⟩:=boxes3 w #[.slice ao n capa] #[.slice bo m capb] #[.slice none 0 0] 116 116 116;have hr1:=hid (hr.below c5);have hs1:=hid (hs.below c5);have H5:=hid (c5);have X3:=hid (c3);have hc:=jLW x y hxy;clear hr hs c5 c1 c2 c3;go_enter Tryz.func122,Tryz.ntmps122;go_wp2_with fail;refine (jAQ ao bo n capa m capb x y _ hr1.out hs1.out (by omega) (by omega)).mono ?_;rintro e w2 ⟨rfl,hb2⟩;have Z:=hid (X3.out.below hb2 X3.out.lt);have z1:=Z.out.cell 0 _ rfl;have z2:=Z.out.frozen 0;have HB2:=hid (hb2);clear hb2;go_wp2;refine bodyPost_ret (v:=.agg #[.slice none 0 0]) (by simp[results,Tryz.results122,go_sem,z1]) rfl ⟨_,rfl,⟨_,_,_,rfl,?_⟩,?_⟩
 ·rw[Nat.sub_eq_zero_of_le hxy];exact Row.nil _
 ·exact (H5.out.trans (HB2.out.mono (by simp;omega))).setCell (by simp;omega) _
theorem jMC (ao bo:Option Addr)(n capa m capb:Nat)(x y:Nat)(w:World)(hr:Row w ao n capa (limbs x))(hs:Row w bo m capb (limbs y))(hn:n≤50000)(hm:m≤50000)(hxy:y<x):Calls Tryz.prog 122 #[.agg #[.slice ao n capa],.agg #[.slice bo m capb]] w fun e w'=>∃ v,e = .returned v∧Num w' v (x - y)∧Below w.heap.size w w':=by
  have l1:=hr.len;have l2:=hs.len;(have hmn:m≤n:=by rw[← l1,← l2];exact jAh (by omega));have HR:=hid (hr);have HS:=hid (hs);obtain ⟨c1,c2,c3,c5⟩:=boxes3 w #[.slice ao n capa] #[.slice bo m capb] #[.slice none 0 0] 116 116 116;have hr1:=hid (hr.below c5);have hs1:=hid (hs.below c5);have H5:=hid (c5);have X1:=hid (c1);have X2:=hid (c2);have X3:=hid (c3);have hc:=jLo x y hxy;clear hr hs c5 c1 c2 c3;go_enter Tryz.func122,Tryz.ntmps122;go_wp2_with fail;refine (jAQ ao bo n capa m capb x y _ hr1.out hs1.out (by omega) (by omega)).mono ?_;rintro e w2 ⟨rfl,hb2⟩;have hsz:=hb2.size;simp only[World.size_alloc] at hsz;have Y1:=hid (X1.out.below hb2 X1.out.lt);have Y2:=hid (X2.out.below hb2 X2.out.lt);have Y3:=hid (X3.out.below hb2 X3.out.lt);have y1:=Y1.out.cell 0 _ rfl;have HB2:Hid (Below w.heap.size w w2):=H5.out.trans (hb2.mono (by simp;omega));clear hb2 X1 X2 X3;go_wp2_with (at_make;refine jAf _ rfl _ _ rfl _ _ n rfl rfl (by omega) (by omega) (by omega) ?_);intro w1 hk1 hb1 hz1;have X1:=hid (Y1.out.below hb1 Y1.out.lt);have X2:=hid (Y2.out.below hb1 Y2.out.lt);have X3:=hid (Y3.out.below hb1 Y3.out.lt);have k1:=X1.out.cell 0 _ rfl;have HB1:Hid (Below w.heap.size w w1):=HB2.out.trans (hb1.mono (by omega));obtain ⟨G,hG⟩:∃ G,G=w2.heap.size:=⟨_,rfl⟩;rw[← hG] at hk1 hb1 hz1 hsz ⊢;have HK1:=hid (hk1);clear hb1 hk1 hG Y1 Y2 Y3 y1 HB2;go_wp2
  go_loopw [6, 22] (fun vc vi wr => ∃ (k : Nat) (c : Int) (out : List Int), k ≤ n ∧ vi = .int .i64 k ∧ vc = .int .i64 c ∧ 0 ≤ c ∧ c ≤ 1 ∧ out.length = n ∧ Hid (Lim out) ∧
      Hid (val (out.take k) - 10000 ^ k * c = val ((limbs x).take k) - val ((limbs y).take k)) ∧ Hid (Blk wr G out) ∧ Hid (Below G w1 wr)) (fun _ vi _ => n - (intOf vi).toNat)
  case atStart=>exact ⟨0,0,_,Nat.zero_le _,rfl,rfl,by omega,by omega,by simp,jBJ _,by simp[Hid,val],HK1.out,Below.refl _ _⟩
  case round=>
    obtain ⟨k,c,out,hk,rfl,rfl,hc0,hc1,hol,hLim,hval,hblk,hb⟩:=hrel;have q2:=(X2.out.below hb.out (by omega)).cell 0 _ rfl;have HB:Hid (Below w.heap.size w wr):=HB1.out.trans (hb.out.mono (by omega));have hgw:G<wr.heap.size:=hblk.out.lt;by_cases hlt2:k<n
    · obtain ⟨ba,oa,rfl,hla⟩:=HR.out.head (by omega);have d1:wr.cell? ⟨ba,oa+k,none⟩=some (.int .i64 (lm (limbs x) k)):=(HB.out.cell (p:=⟨ba,oa+k,none⟩) hla).trans (HR.out.cell ba oa rfl k (by omega));have hrs:Hid (Row wr bo m capb (limbs y)):=HS.out.below HB.out;obtain ⟨bx0,bx1⟩:=jAN (jAI x) k;obtain ⟨by0,by1⟩:=jAN (jAI y) k;by_cases hneg:lm (limbs x) k - lm (limbs y) k - c<0
      all_goals
        go_wp2_with (go_at_call 143; refine (jEt bo m capb k (limbs y) _ hrs.out (by omega) (by omega)).mono ?_; rintro e w3 ⟨rfl, hb3⟩; have g1 := (hblk.out.below hb3 hgw).cell k (by omega); have g2 := (hblk.out.below hb3 hgw).frozen k; have Hb3 := hid (hb3); clear hb3)
        go_roundw
        case rel =>
          refine ⟨k + 1, _, _, by omega, by go_num, rfl, by omega, by omega, by simpa using hol, jBw hLim.out k _ (by omega) (by omega), jKQ out (limbs x) (limbs y) k c _ _ (by omega) (by omega) hval.out, (hblk.out.below Hb3.out hgw).set k _, ?_⟩
          exact (hb.out.trans (Hb3.out.mono (by omega))).setCell (Nat.le_refl _) _
        case measure => simp [intOf]; omega
    · (obtain rfl:k=n:=by omega);have hend:=hid (jLc out k x y c hLim.out hol l1 (by omega) hc0 (by omega) hval.out);have hrow:=hid (Blk.row0 hblk.out k k (by omega) (Nat.le_refl _) (by unfold maxLen;omega));go_wp2_with fail;refine (jCf _ k k out _ hrow.out hLim.out (by omega)).mono ?_;rintro e w4 ⟨j,hj,hj2,rfl,hb4⟩;have hbb:Hid (Below G w1 w4):=hb.out.trans (hb4.mono (by omega));have Z:=hid (X3.out.below hbb.out (by omega));have z1:=Z.out.cell 0 _ rfl;have z2:=Z.out.frozen 0;have HR2:=hid (jBR hrow.out hj hj2 hend.out hb4);clear hb4 hj2;go_wp2;refine bodyPost_ret (v:=.agg #[.slice (some ⟨G,0,none⟩) j k]) (by simp[results,Tryz.results122,go_sem,z1]) rfl ⟨_,rfl,⟨_,_,_,rfl,HR2.out.other _ _ _ Z.out (by decide)⟩,?_⟩;exact (HB1.out.trans (hbb.out.mono (by omega))).setCell (by simp;omega) _
theorem jJW (ao bo:Option Addr)(n capa m capb:Nat)(x y:Nat)(w:World)(hr:Row w ao n capa (limbs x))(hs:Row w bo m capb (limbs y))(hn:n≤50000)(hm:m≤50000):Calls Tryz.prog 122 #[.agg #[.slice ao n capa],.agg #[.slice bo m capb]] w fun e w'=>∃ v,e = .returned v∧Num w' v (x - y)∧Below w.heap.size w w':=by
 by_cases h:x≤y
 ·exact sub_le ao bo n capa m capb x y w hr hs hn hm h
 ·exact jMC ao bo n capa m capb x y w hr hs hn hm (by omega)
theorem jF5 (xs:List Int)(k t:Nat)(v:Int)(h:t≠k):lm (xs.set k v) t=lm xs t:=by
 unfold lm;simp[List.getElem?_set,Ne.symm h]
theorem jCX (n t:Nat):lm (List.replicate n 0) t=0:=by
 unfold lm;rw[List.getD_eq_getElem?_getD];by_cases h:t<n
 ·simp[h]
 ·rw[List.getElem?_eq_none (by simp;omega)];rfl
theorem jDL (n:Nat):val (List.replicate n 0)=0:=by
 induction n with
 | zero=>rfl
 | succ n ih=>simp[List.replicate_succ,val,ih]
theorem jK6 (o A:List Int)(i m:Nat)(Y c:Int)(hk:i+m<o.length)(h0:lm o (i+m)=0)(h:val o+10000 ^ (i+m)*c=val (A.take i)*Y+10000 ^ i*(lm A i*Y)):val (o.set (i+m) c)=val (A.take (i+1))*Y:=by
 rw[jGa o _ _ hk,h0,jAO];generalize (10000:Int) ^ (i+m)=P at *;generalize (10000:Int) ^ i=R at *
 grind
theorem jAw (ao bo:Option Addr)(n capa m capb:Nat)(x y:Nat)(w:World)(hr:Row w ao n capa (limbs x))(hs:Row w bo m capb (limbs y))(hnm:n+m≤60000):Calls Tryz.prog 118 #[.agg #[.slice ao n capa],.agg #[.slice bo m capb]] w fun e w'=>∃ v,e = .returned v∧Num w' v (x*y)∧Below w.heap.size w w':=by
  have l1:=hr.len;have l2:=hs.len;have HR:=hid (hr);have HS:=hid (hs);obtain ⟨c1,c2,c3,c5⟩:=boxes3 w #[.slice ao n capa] #[.slice bo m capb] #[.slice none 0 0] 116 116 116;have H5:=hid (c5);have X1:=hid (c1);have X2:=hid (c2);have X3:=hid (c3);clear hr hs c5 c1 c2 c3;go_enter Tryz.func118,Tryz.ntmps118;go_wp2_with (at_make;refine jAf _ rfl _ _ rfl _ _ (n+m) rfl rfl (by omega) (by omega) (by omega) ?_);intro w1 hk1 hb1 hz1;have Y1:=hid (X1.out.below hb1 (by omega));have Y2:=hid (X2.out.below hb1 (by omega));have Y3:=hid (X3.out.below hb1 (by omega));have k1:=Y1.out.cell 0 _ rfl;have HB1:Hid (Below w.heap.size w w1):=H5.out.trans (hb1.mono (by omega));have HK1:=hid (hk1);obtain ⟨G,hG⟩:∃ G,G=w.heap.size+1+1+1:=⟨_,rfl⟩;(have hsz:w.heap.size+1+1+1≤G:=by omega);rw[← hG] at hk1 hb1 hz1 HK1 ⊢;clear hb1 hk1 hG X1 X2 X3;go_wp2
  go_loopw [23] (fun vi wr => ∃ (k : Nat) (out : List Int), k ≤ n ∧ vi = .int .i64 k ∧ out.length = n + m ∧ Hid (Lim out) ∧
      Hid (val out = val ((limbs x).take k) * (y : Int)) ∧ Hid (∀ t, k + m ≤ t → lm out t = 0) ∧ Hid (Blk wr G out) ∧ Hid (Below G w1 wr)) (fun vi _ => n - (intOf vi).toNat)
  case atStart=>exact ⟨0,_,Nat.zero_le _,rfl,by simp,jBJ _,by simp[Hid,val,jDL],fun t _=>jCX _ t,HK1.out,Below.refl _ _⟩
  case round=>
    obtain ⟨k,out,hk,rfl,hol,hLim,hval,hzero,hblk,hb⟩:=hrel;have q2:=(Y2.out.below hb.out (by omega)).cell 0 _ rfl;have HB:Hid (Below w.heap.size w wr):=HB1.out.trans (hb.out.mono (by omega));have hgw:G<wr.heap.size:=hblk.out.lt;by_cases hlt2:k<n
    · obtain ⟨ba,oa,rfl,hla⟩:=HR.out.head (by omega);have d1:wr.cell? ⟨ba,oa+k,none⟩=some (.int .i64 (lm (limbs x) k)):=(HB.out.cell (p:=⟨ba,oa+k,none⟩) hla).trans (HR.out.cell ba oa rfl k (by omega));obtain ⟨bx0,bx1⟩:=jAN (jAI x) k;go_wp2
      go_loopw [8, 31] (fun vc vj wq => ∃ (j : Nat) (c : Int) (o : List Int), j ≤ m ∧ vj = .int .i64 j ∧ vc = .int .i64 c ∧ 0 ≤ c ∧ c < 10000 ∧ o.length = n + m ∧ Hid (Lim o) ∧
          Hid (val o + 10000 ^ (k + j) * c = val ((limbs x).take k) * (y : Int) + 10000 ^ k * (lm (limbs x) k * val ((limbs y).take j))) ∧ Hid (∀ t, k + m ≤ t → lm o t = 0) ∧ Hid (Blk wq G o) ∧ Hid (Below G w1 wq)) (fun _ vj _ => m - (intOf vj).toNat)
      case atStart=>exact ⟨0,0,out,Nat.zero_le _,rfl,rfl,by omega,by omega,hol,hLim.out,by simp[Hid,val,hval.out],hzero.out,hblk.out,hb.out⟩
      case round=>
        obtain ⟨j,c,o,hj,rfl,rfl,hc0,hc1,hol2,hLim2,hval2,hzero2,hblk2,hb2⟩:=hrel;have HB2:Hid (Below w.heap.size w wr):=HB1.out.trans (hb2.out.mono (by omega));have hgw2:G<wr.heap.size:=hblk2.out.lt;by_cases hlt3:j<m
        · obtain ⟨bb,ob,rfl,hlb⟩:=HS.out.head (by omega);have d2:wr.cell? ⟨bb,ob+j,none⟩=some (.int .i64 (lm (limbs y) j)):=(HB2.out.cell (p:=⟨bb,ob+j,none⟩) hlb).trans (HS.out.cell bb ob rfl j (by omega));have g1:=hblk2.out.cell (k+j) (by omega);have g2:=hblk2.out.frozen (k+j);obtain ⟨p1,p2,p3,p4⟩:=jIt (lm o (k+j)) (lm (limbs x) k) (lm (limbs y) j) c (jAN hLim2.out _) (jAN (jAI x) _) (jAN (jAI y) _) ⟨hc0,hc1⟩;obtain ⟨bo0,bo1⟩:=jAN hLim2.out (k+j);clear d1 q2;go_wp2
          go_roundw
          (case rel=>exact ⟨j+1,_,_,by omega,by go_num,rfl,by omega,by omega,by simpa using hol2,jBw hLim2.out (k+j) _ (by omega) (by omega),jKG o (limbs y) k j (lm (limbs x) k) c _ _ (by omega) rfl hval2.out,fun t ht=>(jF5 o (k+j) t _ (by omega)).trans (hzero2.out t ht),hblk2.out.set (k+j) _,hb2.out.setCell (Nat.le_refl _) _⟩);case measure=>simp[intOf];omega
        · (obtain rfl:j=m:=by omega);have q3:=(Y2.out.below hb2.out (by omega)).cell 0 _ rfl;have g1:=hblk2.out.cell (k+j) (by omega);have g2:=hblk2.out.frozen (k+j);(have hvy:val ((limbs y).take j)=(y:Int):=by rw[List.take_of_length_le (by omega),jAb]);have hE:=hid (jK6 o (limbs x) k j y c (by omega) (hzero2.out _ (Nat.le_refl _)) (by rw[hval2.out,hvy]));clear hvy d1 q2;go_wp2
          go_roundw
          (case rel=>exact ⟨k+1,_,by omega,by go_num,by simpa using hol2,jBw hLim2.out (k+j) c hc0 hc1,hE.out,fun t ht=>(jF5 o (k+j) t _ (by omega)).trans (hzero2.out t (by omega)),hblk2.out.set (k+j) _,hb2.out.setCell (Nat.le_refl _) _⟩);case measure=>simp[intOf];omega
    · (obtain rfl:k=n:=by omega);(have hend:Hid ((val out).toNat=x*y):=by unfold Hid;rw[hval.out,List.take_of_length_le (by omega),jAb];(have:(x:Int)*(y:Int)=((x*y:Nat):Int):=by simp);omega);have hrow:=hid (Blk.row0 hblk.out (k+m) (k+m) (by omega) (Nat.le_refl _) (by unfold maxLen;omega));go_wp2_with fail;refine (jCf _ (k+m) (k+m) out _ hrow.out hLim.out (by omega)).mono ?_;rintro e w4 ⟨j,hj,hj2,rfl,hb4⟩;have hbb:Hid (Below G w1 w4):=hb.out.trans (hb4.mono (by omega));have Z:=hid (Y3.out.below hbb.out (by omega));have z1:=Z.out.cell 0 _ rfl;have z2:=Z.out.frozen 0;have HR2:=hid (jBR hrow.out hj hj2 hend.out hb4);clear hb4 hj2;go_wp2;refine bodyPost_ret (v:=.agg #[.slice (some ⟨G,0,none⟩) j (k+m)]) (by simp[results,Tryz.results118,go_sem,z1]) rfl ⟨_,rfl,⟨_,_,_,rfl,HR2.out.other _ _ _ Z.out (by decide)⟩,?_⟩;exact (HB1.out.trans (hbb.out.mono (by omega))).setCell (by simp;omega) _
end Go.Proofs.YtigokanoflkinabGreatDoor
