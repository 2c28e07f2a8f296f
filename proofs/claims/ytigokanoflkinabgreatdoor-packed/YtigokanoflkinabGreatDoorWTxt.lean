/- WParse, WItoa, WText, WTextB, joined. -/
import Derived.Test.YtigokanoflkinabGreatDoorWBase
import Derived.Test.YtigokanoflkinabGreatDoorPure
import Derived.Lib.Strings
import Derived.Test.YtigokanoflkinabGreatDoorShelf
import Derived.ArgAppend
import Derived.Laws.IdiomStrings
set_option maxHeartbeats 1000000
set_option maxRecDepth 10000
namespace Go.Proofs.YtigokanoflkinabGreatDoor
set_option linter.unusedSimpArgs false
set_option linter.unusedVariables false
open Go.RowKit Por
theorem jDH (s:ByteArray)(k:Nat)(h:k<s.size):s.data.toList.take (k+1)=s.data.toList.take k ++ [s[k]]:=by
 rw[List.take_succ_eq_append_getElem (by simpa using h)];rfl
theorem jD5 (s:ByteArray)(w:World)(hs:s.size≤100000):Calls Tryz.prog 151 #[.string s] w fun e w'=>e = .returned (.bool (wholeB s.data.toList))∧w'=w:=by
  by_cases h0:s.size=0
  · (have E:Hid (wholeB s.data.toList=false):=by have:s.data.toList = []:=List.eq_nil_of_length_eq_zero (by simpa using h0);show _=_;rw[this];rfl);(have h0':((s.size:Int) == 0)=true:=by simpa using h0);go_enter Tryz.func151,Tryz.ntmps151;go_wp2;go_ret;exact ⟨by rw[E.out];rfl,rfl⟩
  · (have h0':((s.size:Int) == 0)=false:=by simpa using h0);go_enter Tryz.func151,Tryz.ntmps151;go_wp2
    go_loop[3] (fun i=>∃ k:Nat,k≤s.size∧i = .int .i64 k∧Hid ((s.data.toList.take k).all isDig=true)) (fun i=>s.size - (intOf i).toNat)
    case atStart=>exact ⟨0,Nat.zero_le _,rfl,rfl⟩
    case round=>
      obtain ⟨k,hk,rfl,hd⟩:=hrel;by_cases hlt:k<s.size
      · have hts:=jDH s k hlt;have HS:=hid hts;clear hts
        have hbad:¬ (48≤s[k].toNat∧s[k].toNat≤57)→Hid (wholeB s.data.toList=false):=by
          intro hb;show _=_
          cases hq:wholeB s.data.toList with
          | false=>rfl
          | true=>
            exfalso;have h1:=((jBQ _).1 hq).2.1
            have h2 := List.all_eq_true.1 h1 s[k] (by
              have := List.getElem_mem (l := s.data.toList) (n := k) (by simpa using hlt)
              exact this)
            exact hb ((jBL _).1 h2)
        rcases Nat.lt_or_ge s[k].toNat 48 with hc | hc
        · have E:=hbad (by omega);(have hA:decide ((s[k].toNat:Int)<48)=true:=by simp;omega);clear hbad;go_wp2;go_ret;exact ⟨by rw[E.out];rfl,rfl⟩
        · (have hA:decide ((s[k].toNat:Int)<48)=false:=by simp;omega);rcases Nat.lt_or_ge 57 s[k].toNat with hc2 | hc2
          · have E:=hbad (by omega);(have hB:decide (57<(s[k].toNat:Int))=true:=by simp;omega);clear hbad;go_wp2;go_ret;exact ⟨by rw[E.out];rfl,rfl⟩
          · (have hB:decide (57<(s[k].toNat:Int))=false:=by simp;omega);(have HD:Hid ((s.data.toList.take (k+1)).all isDig=true):=by show _=_;rw[HS.out,List.all_append,hd.out];simp[isDig,hc,hc2]);clear hbad;go_wp2;exact ⟨⟨k+1,by omega,by go_num,HD.out⟩,by simp[intOf];omega⟩
      · obtain rfl:k=s.size:=by omega
        have hall:Hid (s.data.toList.all isDig=true):=by
          have:=hd.out
          rwa [List.take_of_length_le (by simp)] at this
        (have hp:0<s.size:=by omega);have hh:s.data.toList.head? = some s[0]:=by rw[List.head?_eq_getElem?,List.getElem?_eq_getElem (by simpa using hp)];rfl
        have E:Hid (wholeB s.data.toList=((s.size:Int) == 1 || (s[0].toNat:Int) != 48)):=by
          show _=_;rw[Bool.eq_iff_iff,jBQ,hh];(have h2:s.data.toList.length=s.size:=by simp);have h1:s.data.toList≠[]:=by intro hc;rw[hc,List.length_nil] at h2;omega
          have h3:(some s[0]≠some (48:UInt8))↔(s[0].toNat:Int)≠48:=by
            constructor
            · intro h hc;apply h;congr 1;apply UInt8.toNat_inj.1;have e:(48:UInt8).toNat=48:=rfl;omega
            · intro h hc;apply h;have:=Option.some.inj hc;rw[this];rfl
          rw[h2,h3];simp only[hall.out,h1,ne_eq,not_false_eq_true,true_and,Bool.or_eq_true,beq_iff_eq,bne_iff_ne];omega
        by_cases h1:(s.size:Int)=1
        · (have h1':((s.size:Int) == 1)=true:=by simpa using h1);clear h1 hh;go_wp2;go_ret;exact ⟨by rw[E.out,h1'];rfl,rfl⟩
        · (have h1':((s.size:Int) == 1)=false:=by simpa using h1);clear h1 hh;go_wp2;go_ret;exact ⟨by rw[E.out,h1'];rfl,rfl⟩
theorem jD7 (s:ByteArray)(w:World)(hs:s.size≤4)(hd:s.data.toList.all isDig=true):Calls Tryz.prog 152 #[.string s] w fun e w'=>e = .returned (.int .i64 (dv s.data.toList:Nat))∧w'=w:=by
  have HD:=hid hd;clear hd;go_enter Tryz.func152,Tryz.ntmps152;go_wp2
  go_loop[3,4] (fun v i=>∃ k:Nat,k≤s.size∧i = .int .i64 k∧v = .int .i64 (dv (s.data.toList.take k):Nat)) (fun _ i=>s.size - (intOf i).toNat)
  case atStart=>exact ⟨0,Nat.zero_le _,rfl,rfl⟩
  case round=>
    obtain ⟨k,hk,rfl,rfl⟩:=hrel;by_cases hlt:k<s.size
    · have hts:=jDH s k hlt;have HS:=hid hts;(have hb:48≤s[k].toNat∧s[k].toNat≤57:=by have:=List.all_eq_true.1 HD.out s[k] (List.getElem_mem (l:=s.data.toList) (n:=k) (by simpa using hlt));exact (jBL _).1 this);obtain ⟨hb0,hb1⟩:=hb
      have hv:dv (s.data.toList.take k)<10000:=by
        have h1 := jKN (s.data.toList.take k) (by
          rw [List.all_eq_true]; intro x hx; exact List.all_eq_true.1 HD.out x (List.mem_of_mem_take hx))
        (have h2:(s.data.toList.take k).length≤4:=by rw[List.length_take];simp;omega);have:(10:Nat) ^ (s.data.toList.take k).length≤10 ^ 4:=Nat.pow_le_pow_right (by omega) h2;omega
      have E:=hid (jGY (s.data.toList.take k) s[k]);clear hts;go_wp2;exact ⟨⟨k+1,by omega,by go_num,by rw[HS.out,E.out];congr 1;omega⟩,by simp[intOf];omega⟩
    · go_wp2;go_ret;exact ⟨by rw[List.take_of_length_le (by simp;omega)];rfl,rfl⟩
theorem jHs {l:List UInt8}(h:wholeB l=true):1≤l.length:=by
 have:=((jBQ _).1 h).1
 cases l with
 | nil=>exact absurd rfl this
 | cons=>simp
theorem jDK (s:ByteArray)(w:World)(hs:s.size≤100000)(h:wholeB s.data.toList=false):Calls Tryz.prog 140 #[.string s] w fun e w'=>e = .returned (.tuple #[.agg #[.slice none 0 0],.bool false])∧Below w.heap.size w w':=by
 go_enter Tryz.func140,Tryz.ntmps140;go_wp2_with (go_at_call 151;refine (jD5 s _ hs).mono ?_;rintro e w' ⟨rfl,rfl⟩);refine bodyPost_ret (v:=.tuple #[.agg #[.slice none 0 0],.bool false]) (by simp[results,Tryz.results140,go_sem]) rfl ⟨rfl,(Below.refl _ _).alloc (Nat.le_refl _) _⟩
theorem jAk (s:ByteArray)(w:World)(hs:s.size≤100000)(h:wholeB s.data.toList=true):Calls Tryz.prog 140 #[.string s] w fun e w'=>∃ v,e = .returned (.tuple #[v,.bool true])∧Num w' v (dv s.data.toList)∧Below w.heap.size w w':=by
  have X0:=hid (jAC w #[.slice none 0 0] 116);have hb0:=hid ((Below.refl _ w).alloc (Nat.le_refl _) (.cells #[.slice none 0 0] 116));have hp:=jHs h;(have hsl:s.data.toList.length=s.size:=by simp);rw[hsl] at hp;have hall:=hid (((jBQ _).1 h).2.1);go_enter Tryz.func140,Tryz.ntmps140
  go_wp2_with (first
    | (go_at_call 151; refine (jD5 s _ hs).mono ?_; rintro e w' ⟨rfl, rfl⟩)
    | (at_make; refine jAf _ rfl _ _ rfl _ _ (s.size / 4 + 1) rfl rfl (by omega) (by omega) (by omega) ?_))
  intro w1 hk1 hb1 hz1;have X1:=hid (X0.out.below hb1 (by omega));have HB1:Hid (Below w.heap.size w w1):=hb0.out.trans (hb1.mono (by omega));have HK1:=hid hk1;obtain ⟨G,hG⟩:∃ G,G=w.heap.size+1:=⟨_,rfl⟩;(have hsz:w.heap.size+1≤G:=by omega);rw[← hG] at HK1 ⊢;clear hb1 hk1 hG hb0 X0 h;go_wp2
  go_loopw [5, 6] (fun ve vi wr => ∃ (k e : Nat) (out : List Int), e ≤ s.size ∧ 4 * k + e ≤ s.size + 3 ∧ (e = 0 ∨ 4 * k + e = s.size) ∧ ve = .int .i64 e ∧ vi = .int .i64 k ∧ out.length = s.size / 4 + 1 ∧ Hid (Lim out) ∧
      Hid ((dv s.data.toList : Int) = dv (s.data.toList.take e) * 10000 ^ k + val (out.take k)) ∧ Hid (∀ t, k ≤ t → lm out t = 0) ∧ Hid (Blk wr G out) ∧ Hid (Below G w1 wr)) (fun ve _ _ => (intOf ve).toNat)
  case atStart=>refine ⟨0,s.size,_,Nat.le_refl _,by omega,.inr (by omega),rfl,rfl,by simp,jBJ _,?_,fun t _=>jCX _ t,HK1.out,Below.refl _ _⟩;show _=_;rw[List.take_of_length_le (by omega)];simp[val]
  case round=>
    obtain ⟨k,e,out,he,hke,hke2,rfl,rfl,hol,hLim,hval,hzero,hblk,hb⟩:=hrel;by_cases e0:e=0
    · subst e0;(have hend:Hid ((val out).toNat=dv s.data.toList):=by have h1:=hval.out;rw[List.take_zero,jKt,jCL out k (fun i hi _=>hzero.out i hi)] at h1;show _=_;simp at h1;omega);have hrow:=hid (Blk.row0 hblk.out (s.size / 4+1) (s.size / 4+1) hol.symm (Nat.le_refl _) (by unfold maxLen;omega));have hgw:G<wr.heap.size:=hblk.out.lt;go_wp2_with fail;refine (jCf _ (s.size / 4+1) (s.size / 4+1) out _ hrow.out hLim.out (by omega)).mono ?_;rintro e w4 ⟨j,hj,hj2,rfl,hb4⟩;have hbb:Hid (Below G w1 w4):=hb.out.trans (hb4.mono (by omega));have Z:=hid (X1.out.below hbb.out (by omega));have z1:=Z.out.cell 0 _ rfl;have z2:=Z.out.frozen 0;have HR2:=hid (jBR hrow.out hj hj2 hend.out hb4);clear hb4 hj2;go_wp2;refine bodyPost_ret (v:=.tuple #[.agg #[.slice (some ⟨G,0,none⟩) j (s.size / 4+1)],.bool true]) (by simp[results,Tryz.results140,go_sem,z1]) rfl ⟨_,rfl,⟨_,_,_,rfl,HR2.out.other _ _ _ Z.out (by decide)⟩,?_⟩;exact (HB1.out.trans (hbb.out.mono (by omega))).setCell (Nat.le_refl _) _
    · have hgw:G<wr.heap.size:=hblk.out.lt;(have hkl:k<out.length:=by omega);have g1:=hblk.out.cell k hkl;have g2:=hblk.out.frozen k;(have hch:(s.extract (e - 4) e).data.toList=(s.data.toList.take e).drop (e - 4):=by rw[Go.Lib.extract_data,List.drop_take]);(have hdig:Hid ((s.extract (e - 4) e).data.toList.all isDig=true):=by show _=_;rw[hch,List.all_eq_true];intro x hx;exact List.all_eq_true.1 hall.out x (List.mem_of_mem_take (List.mem_of_mem_drop hx)));(have hcl:(s.extract (e - 4) e).size≤4:=by (have:(s.extract (e - 4) e).data.toList.length=(s.extract (e - 4) e).size:=by rw[Array.length_toList];rfl);rw[hch,List.length_drop,List.length_take] at this;omega);have hstep:=hid (jHj s.data.toList e k out hkl (by omega) hval.out);(have hlt:Hid (dv ((s.data.toList.take e).drop (e - 4))<10000):=by have h1:=jKN _ hdig.out;rw[hch] at h1;(have h2:((s.data.toList.take e).drop (e - 4)).length≤4:=by rw[List.length_drop,List.length_take];omega);have:(10:Nat) ^ ((s.data.toList.take e).drop (e - 4)).length≤10 ^ 4:=Nat.pow_le_pow_right (by omega) h2;show _ < _;omega);have HC:=hid hch;clear hch;(have hpe:(0:Int)<(e:Int):=by omega);by_cases h4:e<4
      · (have hA:(e:Int) - 4<0:=by omega);(have h0e:e - 4=0:=by omega);rw[h0e] at hstep hdig hcl hlt HC;clear h0e;go_wp2_with fail;refine (jD7 _ _ hcl hdig.out).mono ?_;rintro _ _ ⟨rfl,rfl⟩;rw[HC.out];go_wp2
        go_roundw
        (case rel=>exact ⟨k+1,0,_,by omega,by omega,.inl rfl,rfl,by go_num,by simpa using hol,jBw hLim.out k _ (by omega) (by have:=hlt.out;omega),hstep.out,fun t ht=>(jF5 out k t _ (by omega)).trans (hzero.out t (by omega)),hblk.out.set k _,hb.out.setCell (Nat.le_refl _) _⟩);case measure=>simp[intOf];omega
      · (have hA:¬ (e:Int) - 4<0:=by omega);go_wp2_with fail;refine (jD7 _ _ hcl hdig.out).mono ?_;rintro _ _ ⟨rfl,rfl⟩;rw[HC.out];go_wp2
        go_roundw
        (case rel=>exact ⟨k+1,e - 4,_,by omega,by omega,by omega,by go_num,by go_num,by simpa using hol,jBw hLim.out k _ (by omega) (by have:=hlt.out;omega),hstep.out,fun t ht=>(jF5 out k t _ (by omega)).trans (hzero.out t (by omega)),hblk.out.set k _,hb.out.setCell (Nat.le_refl _) _⟩);case measure=>simp[intOf];omega
def Tab (w:World):Prop:=Go.Lib.TabIs Tryz.prog w "internal/strconv.uint64pow10" .u64 Go.Lib.pow10Tab
theorem Tab.below {w w':World}(h:Tab w)(hb:Below w.heap.size w w'):Tab w':=by
 unfold Tab Go.Lib.TabIs World.var? at *
 cases hg:Tryz.prog.globalNamed "internal/strconv.uint64pow10" with
 | none=>simp[hg] at h
 | some g=>
  simp only[hg,Option.bind_some] at h ⊢
  have hlt:g<w.heap.size:=by
   rcases Nat.lt_or_ge g w.heap.size with h' | h'
   ·exact h'
   ·rw[Array.getElem?_eq_none h'] at h;simp at h
  rw[hb.block g hlt];exact h
theorem jG3 (w:World) (k:Nat) (os:Array Obj):Below w.heap.size w (Go.Sort.grow (w.drewN k) os):=
  ⟨rfl,rfl,rfl,by show w.heap.size≤(w.heap ++ os).size;simp,fun i hi=>by show (w.heap ++ os)[i]? = _;rw[Array.getElem?_append_left hi]⟩
theorem jHZ (n:Int)(h0:-9223372036854775808≤n)(h1:n≤9223372036854775807)(w:World)(ht:Tab w):Calls Tryz.prog 111 #[.int .i64 n] w fun e w'=>e = .returned (.string ⟨(Go.Lib.itoa n).toArray⟩)∧Below w.heap.size w w':=by
 refine (Any.strconv_Itoa Tryz.laysM171 n h0 h1 w ht).mono ?_;rintro e w' ⟨rfl,k,os,rfl⟩;exact ⟨rfl,jG3 w k os⟩
def Byt (base:Nat)(w:World)(v:Value)(l:List UInt8):Prop:=
  ∃ g cap,v = .slice (some ⟨g,0,none⟩) l.length cap∧base≤g∧g<w.heap.size∧l.length≤cap∧cap≤maxLen∧
    (∀ j,j<cap→(w.cell? ⟨g,j,none⟩).isSome=true∧w.frozen? ⟨g,j,none⟩=false)∧(∀ j (hj:j<l.length),w.cell? ⟨g,j,none⟩=some (.int .u8 (l[j].toNat:Int)))
theorem Byt.below {base:Nat}{w w':World}{v:Value}{l:List UInt8}(h:Byt base w v l)(hb:Below w.heap.size w w'):Byt base w' v l:=by
 obtain ⟨g,cap,rfl,h1,h2,h3,h4,h5,h6⟩:=h;refine ⟨g,cap,rfl,h1,Nat.lt_of_lt_of_le h2 hb.size,h3,h4,fun j hj=>?_,fun j hj=>?_⟩
 ·rw[hb.cell (p:=⟨g,j,none⟩) h2,hb.frozen (p:=⟨g,j,none⟩) h2];exact h5 j hj
 ·rw[hb.cell (p:=⟨g,j,none⟩) h2];exact h6 j hj
theorem Tryz.infoByte:(Tryz.prog.info? 5).map (fun i=>(i.zero,i.size,i.bytes))=some (some (.int .u8 0),1,1):=by kernel_rfl
theorem jGl {base n:Nat}{w:World}{v:Value}{l:List UInt8}(h:w.ownsRow base 5 1 v n (l.map fun c=>Value.int .u8 c.toNat))(hn:n=l.length)(hp:0<n):Byt base w v l:=by
 rcases h.2 with ⟨_,h0⟩ | ⟨g,cap,cur,rfl,hb,hh,h1,h2,h3,h4⟩
 ·omega
 ·subst hn;rw[Nat.mul_one] at h3 h4;refine ⟨g,cap,rfl,hb,(Array.getElem?_eq_some_iff.1 hh).1,h1,h2,fun j hj=>⟨?_,frozen_of_row w g j _ _ hh⟩,fun j hj=>?_⟩
  ·rw[cell_of_row w g j _ _ _ hh,Array.getElem?_eq_getElem (by omega)];rfl
  ·rw[cell_of_row w g j _ _ _ hh];(have e:(cur.toList.take l.length)[j]? = (l.map fun c=>Value.int .u8 c.toNat)[j]?:=by rw[h4]);rw[List.getElem?_take,if_pos hj,Array.getElem?_toList] at e;rw[e];simp[hj]
theorem jAu (w:World){ops:Array Oper}{rest:List Oper}{o:Oper}{a:Act}{Q:Exit→Act→World→Prop}(hgd:o.guard=none)(s x:Operand)(hop:o.op=Op.call { callee:=Callee.builtin Builtin.append,args:=#[s,x],argTypes:=#[164,164] })(base:Nat)(v:Value)(l:List UInt8)(c:UInt8)(ad:Addr)(hs:a.eval s=v)(hx:a.eval x = .slice (some ad) 1 1)(hb:Byt base w v l)(hc:w.cell? ad=some (.int .u8 c.toNat))(hl:l.length≤1000000)(hbase:base≤w.heap.size)(hK:∀ v' w',Byt base w' v' (l ++ [c])→Below base w w'→wpList Tryz.prog ops Q rest (a.put o.dst v') w'):wpList Tryz.prog ops Q (o :: rest) a w:=by
  obtain ⟨i,hi,hz0,hz1,hz2⟩:=info_parts Tryz.infoByte;obtain ⟨g,cap,rfl,h1,h2,h3,h4,h5,h6⟩:=hb
  have hnew:∀ j u,[Value.int .u8 (c.toNat:Int)][j]? = some u→w.cell? (ad.add j)=some u:=by
    intro j u hj
    match j,hj with
    | 0,hj=>simp at hj;subst hj;simpa [Addr.add] using hc
  refine wpList_append_arg w hgd s x _ hop 5 i (.int .u8 0) 1 1 Tryz.underlying164 hi hz0 hz1 hz2 rfl (by decide) g 0 l.length cap (l.map fun c=>Value.int .u8 c.toNat) hs (by simp) ?_ ad 1 1 [.int .u8 c.toNat] hx rfl hnew (fun u hu=>by simp at hu;subst hu;rfl) ?_ (by unfold maxLen;omega) (by omega) ?_ ?_
  · intro j u hj;(have hjl:j<l.length:=by have:=(List.getElem?_eq_some_iff.1 hj).1;simpa using this);rw[Nat.zero_add,h6 j hjl,← hj];simp[hjl]
  · intro hr j hj;(have e0:j=0:=by simpa using hj);subst e0;exact h5 _ (by omega)
  · intro hr;(have hset:w.setCells g (0+l.length*1) [Value.int .u8 (c.toNat:Int)]=w.setCell ⟨g,l.length,none⟩ (.int .u8 c.toNat):=by simp[World.setCells]);rw[hset];refine hK _ _ ⟨g,cap,by simp,h1,by simpa [World.setCell] using h2,by simpa using hr,h4,fun j hj=>?_,fun j hj=>?_⟩ ((Below.refl _ _).setCell h1 _)
    · have:=World.frozen?_setCells g [Value.int .u8 (c.toNat:Int)] l.length w ⟨g,j,none⟩;rw[show w.setCells g l.length [Value.int .u8 (c.toNat:Int)]=w.setCell ⟨g,l.length,none⟩ (.int .u8 c.toNat) from rfl] at this;refine ⟨?_,this.trans (h5 j hj).2⟩;by_cases e:j=l.length
      · subst e
        have := World.cell?_setCells_in g [Value.int .u8 (c.toNat : Int)] l.length w (fun j hj => by have e0 : j = 0 := by simpa using hj
                                                                                                     subst e0; exact (h5 _ (by omega)).1) 0 (by simp)
        rw[show w.setCells g l.length [Value.int .u8 (c.toNat:Int)]=w.setCell ⟨g,l.length,none⟩ (.int .u8 c.toNat) from rfl,Nat.add_zero] at this;rw[this];rfl
      · have:=World.cell?_setCells_out g [Value.int .u8 (c.toNat:Int)] l.length w ⟨g,j,none⟩ (fun _ _=>by simp;omega);rw[show w.setCells g l.length [Value.int .u8 (c.toNat:Int)]=w.setCell ⟨g,l.length,none⟩ (.int .u8 c.toNat) from rfl] at this;rw[this];exact (h5 j hj).1
    · by_cases e:j=l.length
      · subst e
        have := World.cell?_setCells_in g [Value.int .u8 (c.toNat : Int)] l.length w (fun j hj => by have e0 : j = 0 := by simpa using hj
                                                                                                     subst e0; exact (h5 _ (by omega)).1) 0 (by simp)
        rw[show w.setCells g l.length [Value.int .u8 (c.toNat:Int)]=w.setCell ⟨g,l.length,none⟩ (.int .u8 c.toNat) from rfl,Nat.add_zero] at this;rw[this];simp
      · (have hjl:j<l.length:=by simp at hj;omega);have:=World.cell?_setCells_out g [Value.int .u8 (c.toNat:Int)] l.length w ⟨g,j,none⟩ (fun _ _=>by simp;omega);rw[show w.setCells g l.length [Value.int .u8 (c.toNat:Int)]=w.setCell ⟨g,l.length,none⟩ (.int .u8 c.toNat) from rfl] at this;rw[this,h6 j hjl,List.getElem_append_left hjl]
  · intro hr v' w' ho hg;have hB:=jGl (l:=l ++ [c]) (by simpa using ho) (by simp) (by omega);obtain ⟨g',cap',e,h1',rest⟩:=hB;exact hK v' w' ⟨g',cap',e,by omega,rest⟩ ((Below.refl base w).grown hg hbase (fun k e=>by cases e))
theorem jFP (w:World)(s:ByteArray)(hs:s.size≤1000000):∃ v w',(convert 9 164 (.string s)).run Tryz.prog w = .ok v w'∧Byt w.heap.size w' v s.data.toList∧Below w.heap.size w w':=by
 refine ⟨_,_,run_bytes_of_string w _ _ 5 s Tryz.underlying9 Tryz.underlying164 Tryz.underlying5,?_,?_⟩
 ·have hge:=grownCap_ge w s.size 0 5;have hcm:=grownCap_le_maxLen w s.size 0 5 (by unfold maxLen;omega);generalize grownCap w s.size 0 5=C at *;(have hsl:s.data.toList.length=s.size:=by simp);(have hsz:(bytesRow s C).size=C:=by have:s.data.size=s.size:=rfl;simp[bytesRow];omega);have hh:(w.drew.alloc (.cells (bytesRow s C) 5 ((bytesRow s C).size,(bytesRow s C).size+1))).heap[w.heap.size]? = some (.cells (bytesRow s C) 5 ((bytesRow s C).size,(bytesRow s C).size+1)):=heap_alloc_new w.drew _;refine ⟨w.heap.size,C,by rw[hsl],Nat.le_refl _,(Array.getElem?_eq_some_iff.1 hh).1,by omega,hcm,fun j hj=>⟨?_,?_⟩,fun j hj=>?_⟩
  ·rw[cell_of_row _ _ j _ _ _ hh,Array.getElem?_eq_getElem (by omega)];rfl
  ·(have hnj:¬ C≤j:=by omega);unfold World.frozen?;simp only[];rw[hh];simp[hsz,hnj]
  ·rw[cell_of_row _ _ j _ _ _ hh];(have hj2:j<s.data.size:=by simpa using hj);unfold bytesRow;rw[Array.getElem?_append_left (by simpa using hj2),Array.getElem?_map,Array.getElem?_eq_getElem hj2];rfl
 ·exact (Below.refl _ _).drew.alloc (Nat.le_refl _) _
theorem jFb {base:Nat}{w:World}{v:Value}{l:List UInt8}(h:Byt base w v l):(convert 164 9 v).run Tryz.prog w = .ok (.string ⟨l.toArray⟩) w:=by
 obtain ⟨g,cap,rfl,h1,h2,h3,h4,h5,h6⟩:=h;exact run_convert_bytes_back w _ _ 5 ⟨g,0,none⟩ cap l Tryz.underlying164 Tryz.underlying5 Tryz.underlying9 (fun j hj=>by rw[Addr.add_lit,Nat.zero_add];exact h6 j hj)
theorem Byt.mono {base base':Nat}{w:World}{v:Value}{l:List UInt8}(h:Byt base w v l)(hb:base'≤base):Byt base' w v l:=by
 obtain ⟨g,cap,e,h1,rest⟩:=h;exact ⟨g,cap,e,Nat.le_trans hb h1,rest⟩
theorem jEo (base:Nat)(v:Value)(l:List UInt8)(m:Nat)(w:World)(hv:Byt base w v l)(hm:m<10000)(hl:l.length≤900000)(hb:base≤w.heap.size):Calls Tryz.prog 145 #[v,.int .i64 m] w fun e w'=>∃ v',e = .returned v'∧Byt base w' v' (l ++ pad4 m)∧Below base w w':=by
 have HV:=hid hv;clear hv;go_enter Tryz.func145,Tryz.ntmps145;go_wp2
 go_loopw [0,5] (fun v0 vu wr=>∃ (j u:Nat),((j=0∧u=1000)∨(j=1∧u=100)∨(j=2∧u=10)∨(j=3∧u=1)∨(j=4∧u=0))∧vu = .int .i64 u∧Hid (Byt base wr v0 (l ++ (pad4 m).take j))∧Hid (Below base w wr)) (fun _ vu _=>(intOf vu).toNat)
 case atStart=>exact ⟨0,1000,.inl ⟨rfl,rfl⟩,rfl,by simpa [Hid] using HV.out,Below.refl _ _⟩
 case round=>
  obtain ⟨j,u,hju,rfl,hB,hb1⟩:=hrel;rcases hju with ⟨rfl,rfl⟩ | ⟨rfl,rfl⟩ | ⟨rfl,rfl⟩ | ⟨rfl,rfl⟩ | ⟨rfl,rfl⟩
  ·(have hc:(((UInt8.ofNat (48+m / 1000 % 10)).toNat:Nat):Int)=48+(m:Int) / 1000 % 10:=by rw[jBK _ (by omega)];omega);(have hcell:(wr.alloc (.cells #[.int .u8 (48+(m:Int) / 1000 % 10)] 5)).cell? ⟨wr.heap.size,0,none⟩=some (.int .u8 ((UInt8.ofNat (48+m / 1000 % 10)).toNat:Nat)):=by rw[hc];exact (jAC wr _ _).cell 0 _ rfl);have HC:=hid hcell;clear hc hcell;go_wp2_with (at_builtin;refine jAu _ rfl _ _ rfl base _ (l ++ (pad4 m).take 0) (UInt8.ofNat (48+m / 1000 % 10)) ⟨wr.heap.size,0,none⟩ rfl rfl (hB.out.below ((Below.refl _ _).alloc (Nat.le_refl _) _)) HC.out (by simp[pad4];omega) (by have:=hb1.out.size;simp;omega) ?_);intro v' w' hB' hb';have HB':=hid hB';have Hb':Hid (Below base w w'):=hb1.out.trans (((Below.refl _ _).alloc (by have:=hb1.out.size;omega) _).trans hb');clear hB' hb' hB hb1;go_wp2
   go_roundw
   (case rel=>exact ⟨1,100,by simp,rfl,by simpa [pad4,Hid] using HB'.out,Hb'.out⟩);case measure=>simp[intOf]
  ·(have hc:(((UInt8.ofNat (48+m / 100 % 10)).toNat:Nat):Int)=48+(m:Int) / 100 % 10:=by rw[jBK _ (by omega)];omega);(have hcell:(wr.alloc (.cells #[.int .u8 (48+(m:Int) / 100 % 10)] 5)).cell? ⟨wr.heap.size,0,none⟩=some (.int .u8 ((UInt8.ofNat (48+m / 100 % 10)).toNat:Nat)):=by rw[hc];exact (jAC wr _ _).cell 0 _ rfl);have HC:=hid hcell;clear hc hcell;go_wp2_with (at_builtin;refine jAu _ rfl _ _ rfl base _ (l ++ (pad4 m).take 1) (UInt8.ofNat (48+m / 100 % 10)) ⟨wr.heap.size,0,none⟩ rfl rfl (hB.out.below ((Below.refl _ _).alloc (Nat.le_refl _) _)) HC.out (by simp[pad4];omega) (by have:=hb1.out.size;simp;omega) ?_);intro v' w' hB' hb';have HB':=hid hB';have Hb':Hid (Below base w w'):=hb1.out.trans (((Below.refl _ _).alloc (by have:=hb1.out.size;omega) _).trans hb');clear hB' hb' hB hb1;go_wp2
   go_roundw
   (case rel=>exact ⟨2,10,by simp,rfl,by simpa [pad4,Hid] using HB'.out,Hb'.out⟩);case measure=>simp[intOf]
  ·(have hc:(((UInt8.ofNat (48+m / 10 % 10)).toNat:Nat):Int)=48+(m:Int) / 10 % 10:=by rw[jBK _ (by omega)];omega);(have hcell:(wr.alloc (.cells #[.int .u8 (48+(m:Int) / 10 % 10)] 5)).cell? ⟨wr.heap.size,0,none⟩=some (.int .u8 ((UInt8.ofNat (48+m / 10 % 10)).toNat:Nat)):=by rw[hc];exact (jAC wr _ _).cell 0 _ rfl);have HC:=hid hcell;clear hc hcell;go_wp2_with (at_builtin;refine jAu _ rfl _ _ rfl base _ (l ++ (pad4 m).take 2) (UInt8.ofNat (48+m / 10 % 10)) ⟨wr.heap.size,0,none⟩ rfl rfl (hB.out.below ((Below.refl _ _).alloc (Nat.le_refl _) _)) HC.out (by simp[pad4];omega) (by have:=hb1.out.size;simp;omega) ?_);intro v' w' hB' hb';have HB':=hid hB';have Hb':Hid (Below base w w'):=hb1.out.trans (((Below.refl _ _).alloc (by have:=hb1.out.size;omega) _).trans hb');clear hB' hb' hB hb1;go_wp2
   go_roundw
   (case rel=>exact ⟨3,1,by simp,rfl,by simpa [pad4,Hid] using HB'.out,Hb'.out⟩);case measure=>simp[intOf]
  ·(have hc:(((UInt8.ofNat (48+m % 10)).toNat:Nat):Int)=48+(m:Int) % 10:=by rw[jBK _ (by omega)];omega);(have hcell:(wr.alloc (.cells #[.int .u8 (48+(m:Int) % 10)] 5)).cell? ⟨wr.heap.size,0,none⟩=some (.int .u8 ((UInt8.ofNat (48+m % 10)).toNat:Nat)):=by rw[hc];exact (jAC wr _ _).cell 0 _ rfl);have HC:=hid hcell;clear hc hcell;go_wp2_with (at_builtin;refine jAu _ rfl _ _ rfl base _ (l ++ (pad4 m).take 3) (UInt8.ofNat (48+m % 10)) ⟨wr.heap.size,0,none⟩ rfl rfl (hB.out.below ((Below.refl _ _).alloc (Nat.le_refl _) _)) HC.out (by simp[pad4];omega) (by have:=hb1.out.size;simp;omega) ?_);intro v' w' hB' hb';have HB':=hid hB';have Hb':Hid (Below base w w'):=hb1.out.trans (((Below.refl _ _).alloc (by have:=hb1.out.size;omega) _).trans hb');clear hB' hb' hB hb1;go_wp2
   go_roundw
   (case rel=>exact ⟨4,0,by simp,rfl,by simpa [pad4,Hid] using HB'.out,Hb'.out⟩);case measure=>simp[intOf]
  ·go_wp2;go_ret;exact ⟨_,rfl,by have:=hB.out;simpa [pad4] using this,hb1.out⟩
open Go.Lib (decDigits)
theorem jC2 (xs:List Int)(i:Nat)(h:i<xs.length):val (xs.drop i)=lm xs i+10000*val (xs.drop (i+1)):=by
 rw[List.drop_eq_getElem_cons h,val];unfold lm;simp[h]
theorem jJ8 (m k:Nat)(hk:k<(limbs m).length):1≤val ((limbs m).drop k):=by
 have hL:=jBS (jAI m) k;have h0:=jAY hL;by_cases h:1≤val ((limbs m).drop k)
 ·exact h
 ·exfalso;(have e:val ((limbs m).drop k)=0:=by omega);(have ht:Topped ((limbs m).drop k):=by have:=jBW m;unfold Topped at *;rw[List.getLast?_drop,if_neg (by omega)];exact this);have:=jFT hL ht;rw[e] at this;have h2:=congrArg List.length this;rw[List.length_drop] at h2;have:(limbs (Int.toNat 0)).length=0:=rfl;omega
theorem jIV (m k:Nat)(hk:k+1<(limbs m).length):decDigits (val ((limbs m).drop (k+1))).toNat ++ pad4 (lm (limbs m) k).toNat=decDigits (val ((limbs m).drop k)).toNat:=by
 have h1:=jJ8 m (k+1) hk;have h2:=jAN (jAI m) k;have h3:=jC2 (limbs m) k (by omega);rw[← jK9 _ _ (by omega) (by omega)];congr 1;omega
theorem jBF (m n:Nat)(h:(limbs m).length=n):(decDigits m).length≤4*n+1:=by
 refine jBj (by omega) ?_;have:=jBE m;rw[h] at this;(have e:(10000:Nat) ^ n=10 ^ (4*n):=by rw[Nat.pow_mul]);rw[Nat.pow_succ];omega
theorem jCb (ao:Option Addr)(n cap m:Nat)(w:World)(hr:Row w ao n cap (limbs m))(hn:n≤40000)(ht:Tab w):Calls Tryz.prog 125 #[.agg #[.slice ao n cap]] w fun e w'=>e = .returned (.string ⟨(decDigits m).toArray⟩)∧Below w.heap.size w w':=by
  have l1:=hr.len;have X0:=hid (jAC w #[.slice ao n cap] 116);have hb0:=hid ((Below.refl _ w).alloc (Nat.le_refl _) (.cells #[.slice ao n cap] 116));by_cases h0:n=0
  · have hm:m=0:=jDe.1 (List.eq_nil_of_length_eq_zero (by omega));subst h0;(have e:decDigits 0 = [48]:=by rw[jC7 (by omega)];rfl);rw[hm,e];clear hr;go_enter Tryz.func125,Tryz.ntmps125;go_wp2;go_ret;exact ⟨rfl,hb0.out⟩
  · obtain ⟨b,o,rfl,hlt⟩:=hr.head (by omega);obtain ⟨q,rfl⟩:∃ q,n=q+1:=⟨n - 1,by omega⟩;have d1:=hr.cell b o rfl q (by omega);have HR:=hid hr;have HT:=hid (ht.below hb0.out);obtain ⟨t0,t1⟩:=jAN (jAI m) q;(have hit:Hid (Go.Lib.itoa (lm (limbs m) q)=decDigits (lm (limbs m) q).toNat):=by show _=_;unfold Go.Lib.itoa;rw[if_neg (by omega)]);(have hil:Hid ((Go.Lib.itoa (lm (limbs m) q)).length≤4):=by show _≤_;rw[hit.out];exact jBj (by omega) (by omega));(have h0':(((q:Int)+1) == 0)=false:=by rw[beq_eq_false_iff_ne];omega);clear hr ht;go_enter Tryz.func125,Tryz.ntmps125;go_wp2_with fail;refine (jHZ _ (by omega) (by omega) _ HT.out).mono ?_;rintro e w2 ⟨rfl,hb2⟩
    obtain ⟨v, w3, hrun, hB, hb3⟩ := jFP w2 ⟨(Go.Lib.itoa (lm (limbs m) q)).toArray⟩ (by
      have := hil.out
      show (Go.Lib.itoa (lm (limbs m) q)).toArray.size ≤ _
      rw [List.size_toArray]; omega)
    have hs2:=hb2.size;simp only[World.size_alloc] at hs2;have HB3:Hid (Below w.heap.size w w3):=hb0.out.trans ((hb2.mono (by simp)).trans (hb3.mono (by omega)));have X3:Hid (Bx w3 w.heap.size #[.slice (some ⟨b,o,none⟩) (q+1) cap] 116):=(X0.out.below hb2 X0.out.lt).below hb3 (by omega);(have HB:Hid (Byt (w.heap.size+1) w3 v (decDigits (val ((limbs m).drop q)).toNat)):=by (have e1:val ((limbs m).drop q)=lm (limbs m) q:=by rw[jC2 _ q (by omega),List.drop_of_length_le (by omega)];simp[val]);rw[e1,← hit.out];exact hB.mono (by omega));clear hb2 hb3 hB;go_wp2
    go_loopw [5,6] (fun vt vi wr=>∃ k:Nat,k≤q∧vi = .int .i64 ((k:Int) - 1)∧Hid (Byt (w.heap.size+1) wr vt (decDigits (val ((limbs m).drop k)).toNat))∧Hid (Below (w.heap.size+1) w3 wr)) (fun _ vi _=>(intOf vi+1).toNat)
    case atStart=>exact ⟨q,Nat.le_refl _,by go_num,HB.out,Below.refl _ _⟩
    case round=>
      obtain ⟨k,hk,rfl,hB,hb⟩:=hrel;by_cases k0:k=0
      · subst k0;have hrun2:=jFb hB.out;(have e:Hid ((val ((limbs m).drop 0)).toNat=m):=by show _=_;rw[List.drop_zero,jAb];omega);rw[e.out] at hrun2;go_wp2;go_ret;exact ⟨rfl,HB3.out.trans (hb.out.mono (by omega))⟩
      · obtain ⟨p,rfl⟩:∃ p,k=p+1:=⟨k - 1,by omega⟩;(have hq1:(0:Int)≤((p+1:Nat):Int) - 1:=by omega);have x1:=(X3.out.below hb.out (by omega)).cell 0 _ rfl;have HBw:Hid (Below w.heap.size w wr):=HB3.out.trans (hb.out.mono (by omega));have d2:wr.cell? ⟨b,o+p,none⟩=some (.int .i64 (lm (limbs m) p)):=(HBw.out.cell (p:=⟨b,o+p,none⟩) hlt).trans (HR.out.cell b o rfl p (by omega));have hst:=hid (jIV m p (by omega));obtain ⟨u0,u1⟩:=jAN (jAI m) p
        have hlen:Hid ((decDigits (val ((limbs m).drop (p+1))).toNat).length≤900000):=by
          have h1 := jBj (n := (val ((limbs m).drop (p + 1))).toNat) (k := 4 * ((limbs m).length - (p + 1)) + 1) (by omega) (by
            have h2 := jCp (jBS (jAI m) (p + 1))
            rw [List.length_drop] at h2
            have e1 : ((10000 ^ ((limbs m).length - (p + 1)) : Nat) : Int) = 10000 ^ ((limbs m).length - (p + 1)) := Int.natCast_pow 10000 _
            have e2 : (10000 : Nat) ^ ((limbs m).length - (p + 1)) = 10 ^ (4 * ((limbs m).length - (p + 1))) := by rw [Nat.pow_mul]
            have hp : 0 < (10000 : Nat) ^ ((limbs m).length - (p + 1)) := Nat.pow_pos (by omega)
            rw [Nat.pow_succ, ← e2]
            generalize (10000 : Nat) ^ ((limbs m).length - (p + 1)) = P at *
            omega)
          show _≤_;omega
        (have hsw:w.heap.size+1≤wr.heap.size:=by obtain ⟨g,cap',_,h1,h2,_⟩:=hB.out;omega);clear d1;go_wp2_with fail;rw[show lm (limbs m) p=((lm (limbs m) p).toNat:Int) from by omega];refine (jEo (w.heap.size+1) _ _ (lm (limbs m) p).toNat _ hB.out (by omega) hlen.out hsw).mono ?_;rintro e w4 ⟨v',rfl,hB4,hb4⟩;rw[hst.out] at hB4;have HB4:=hid hB4;have Hb4:=hid hb4;clear hB4 hb4;go_wp2
        go_roundw
        (case rel=>exact ⟨p,by omega,by go_num,HB4.out,hb.out.trans Hb4.out⟩);case measure=>simp[intOf]
end Go.Proofs.YtigokanoflkinabGreatDoor
