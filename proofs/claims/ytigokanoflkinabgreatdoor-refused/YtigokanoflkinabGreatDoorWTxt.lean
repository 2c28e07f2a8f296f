/- WParse, WItoa, WText, WTextB, joined. -/
import Derived.Test.YtigokanoflkinabGreatDoorWBase
import Derived.Test.YtigokanoflkinabGreatDoorShelf
set_option maxHeartbeats 1000000
set_option maxRecDepth 10000
namespace Go.Proofs.YtigokanoflkinabGreatDoor
set_option linter.unusedSimpArgs false
set_option linter.unusedVariables false
open Go.RowKit Por
theorem jCl (s:ByteArray)(k:Nat)(h:k<s.size):s.data.toList.take (k+1)=s.data.toList.take k ++ [s[k]]:=by
 rw[List.take_succ_eq_append_getElem (by simpa using h)];rfl
theorem jFB (s:ByteArray)(w:World)(hs:s.size<=100000):Calls Tryz.prog 151 #[.string s] w fun e w'=>e = .returned (.bool (zO s.data.toList))/\w'=w:=by
  by_cases p:s.size=0
  · (have E:Hid (zO s.data.toList=false):=by have:s.data.toList = []:=List.eq_nil_of_length_eq_zero (by simpa using p);show _=_;rw[this];rfl);(have q:((s.size:Int) == 0)=true:=by simpa using p);go_enter Tryz.func151,Tryz.ntmps151;go_wp2;go_ret;exact ⟨by rw[E.out];rfl,rfl⟩
  · (have q:((s.size:Int) == 0)=false:=by simpa using p);go_enter Tryz.func151,Tryz.ntmps151;go_wp2
    go_loop[3] (fun i=>∃ k:Nat,k<=s.size/\i = .int .i64 k/\Hid ((s.data.toList.take k).all yx=true)) (fun i=>s.size - (intOf i).toNat)
    case atStart=>exact ⟨0,Nat.zero_le _,rfl,rfl⟩
    case round=>
      obtain ⟨k,D,rfl,t⟩:=hrel;by_cases j:k<s.size
      · have m:=jCl s k j;have v:=hid m;clear m
        have a:¬ (48<=s[k].toNat/\s[k].toNat<=57)->Hid (zO s.data.toList=false):=by
          intro A;show _=_
          cases C:zO s.data.toList with
          | false=>rfl
          | true=>
            exfalso;have b:=((jBb _).1 C).2.1
            have o := List.all_eq_true.1 b s[k] (by
              have := List.getElem_mem (l := s.data.toList) (n := k) (by simpa using j)
              exact this)
            exact A ((jBF _).1 o)
        rcases Nat.lt_or_ge s[k].toNat 48 with d | d
        · have E:=a (by omega);(have y:decide ((s[k].toNat:Int)<48)=true:=by simp;omega);clear a;go_wp2;go_ret;exact ⟨by rw[E.out];rfl,rfl⟩
        · (have y:decide ((s[k].toNat:Int)<48)=false:=by simp;omega);rcases Nat.lt_or_ge 57 s[k].toNat with g | g
          · have E:=a (by omega);(have z:decide (57<(s[k].toNat:Int))=true:=by simp;omega);clear a;go_wp2;go_ret;exact ⟨by rw[E.out];rfl,rfl⟩
          · (have z:decide (57<(s[k].toNat:Int))=false:=by simp;omega);(have u:Hid ((s.data.toList.take (k+1)).all yx=true):=by show _=_;rw[v.out,List.all_append,t.out];simp[yx,d,g]);clear a;go_wp2;exact ⟨⟨k+1,by omega,by go_num,u.out⟩,by simp[intOf];omega⟩
      · obtain rfl:k=s.size:=by omega
        have f:Hid (s.data.toList.all yx=true):=by
          have:=t.out
          rwa [List.take_of_length_le (by simp)] at this
        (have B:0<s.size:=by omega);have r:s.data.toList.head? = some s[0]:=by rw[List.head?_eq_getElem?,List.getElem?_eq_getElem (by simpa using B)];rfl
        have E:Hid (zO s.data.toList=((s.size:Int) == 1 || (s[0].toNat:Int) != 48)):=by
          show _=_;rw[Bool.eq_iff_iff,jBb,r];(have o:s.data.toList.length=s.size:=by simp);have b:s.data.toList≠[]:=by intro d;rw[d,List.length_nil] at o;omega
          have x:(some s[0]≠some (48:UInt8))↔(s[0].toNat:Int)≠48:=by
            constructor
            · intro h d;apply h;congr 1;apply UInt8.toNat_inj.1;have e:(48:UInt8).toNat=48:=rfl;omega
            · intro h d;apply h;have:=Option.some.inj d;rw[this];rfl
          rw[o,x];simp only[f.out,b,ne_eq,not_false_eq_true,true_and,Bool.or_eq_true,beq_iff_eq,bne_iff_ne];omega
        by_cases b:(s.size:Int)=1
        · (have c:((s.size:Int) == 1)=true:=by simpa using b);clear b r;go_wp2;go_ret;exact ⟨by rw[E.out,c];rfl,rfl⟩
        · (have c:((s.size:Int) == 1)=false:=by simpa using b);clear b r;go_wp2;go_ret;exact ⟨by rw[E.out,c];rfl,rfl⟩
theorem jE5 (s:ByteArray)(w:World)(hs:s.size<=4)(hd:s.data.toList.all yx=true):Calls Tryz.prog 152 #[.string s] w fun e w'=>e = .returned (.int .i64 (dv s.data.toList:Nat))/\w'=w:=by
  have c:=hid hd;clear hd;go_enter Tryz.func152,Tryz.ntmps152;go_wp2
  go_loop[3,4] (fun v i=>∃ k:Nat,k<=s.size/\i = .int .i64 k/\v = .int .i64 (dv (s.data.toList.take k):Nat)) (fun _ i=>s.size - (intOf i).toNat)
  case atStart=>exact ⟨0,Nat.zero_le _,rfl,rfl⟩
  case round=>
    obtain ⟨k,p,rfl,rfl⟩:=hrel;by_cases a:k<s.size
    · have b:=jCl s k a;have d:=hid b;(have g:48<=s[k].toNat/\s[k].toNat<=57:=by have:=List.all_eq_true.1 c.out s[k] (List.getElem_mem (l:=s.data.toList) (n:=k) (by simpa using a));exact (jBF _).1 this);obtain ⟨h,j⟩:=g
      have q:dv (s.data.toList.take k)<10000:=by
        have o := jI7 (s.data.toList.take k) (by
          rw [List.all_eq_true]; intro x m; exact List.all_eq_true.1 c.out x (List.mem_of_mem_take m))
        (have f:(s.data.toList.take k).length<=4:=by rw[List.length_take];simp;omega);have:(10:Nat) ^ (s.data.toList.take k).length<=10 ^ 4:=Nat.pow_le_pow_right (by omega) f;omega
      have E:=hid (jF4 (s.data.toList.take k) s[k]);clear b;go_wp2;exact ⟨⟨k+1,by omega,by go_num,by rw[d.out,E.out];congr 1;omega⟩,by simp[intOf];omega⟩
    · go_wp2;go_ret;exact ⟨by rw[List.take_of_length_le (by simp;omega)];rfl,rfl⟩
theorem jIP {l:List UInt8}(h:zO l=true):1<=l.length:=by
 have:=((jBb _).1 h).1
 cases l with
 | nil=>exact absurd rfl this
 | cons=>simp
theorem jDX (s:ByteArray)(w:World)(hs:s.size<=100000)(h:zO s.data.toList=false):Calls Tryz.prog 140 #[.string s] w fun e w'=>e = .returned (.tuple #[.agg #[.slice none 0 0],.bool false])/\Below w.heap.size w w':=by
 go_enter Tryz.func140,Tryz.ntmps140;go_wp2_with (go_at_call 151;refine (jFB s _ hs).mono ?_;rintro e w' ⟨rfl,rfl⟩);refine bodyPost_ret (v:=.tuple #[.agg #[.slice none 0 0],.bool false]) (by simp[results,Tryz.results140,go_sem]) rfl ⟨rfl,brf.alloc (Nat.le_refl _) _⟩
theorem jAq (s:ByteArray)(w:World)(hs:s.size<=100000)(h:zO s.data.toList=true):Calls Tryz.prog 140 #[.string s] w fun e w'=>∃ v,e = .returned (.tuple #[v,.bool true])/\Num w' v (dv s.data.toList)/\Below w.heap.size w w':=by
  have Q:=hid (jAC w #[.slice none 0 0] 116);have B:=hid ((Below.refl _ w).alloc (Nat.le_refl _) (.cells #[.slice none 0 0] 116));have hp:=jIP h;(have O:s.data.toList.length=s.size:=by simp);rw[O] at hp;have A:=hid (((jBb _).1 h).2.1);go_enter Tryz.func140,Tryz.ntmps140
  go_wp2_with (first
    | (go_at_call 151; refine (jFB s _ hs).mono ?_; rintro e w' ⟨rfl, rfl⟩)
    | (at_make; refine jAi _ rfl _ _ rfl _ _ (s.size / 4 + 1) rfl rfl (by omega) (by omega) (by omega) ?_))
  intro P F o ad;have T:=hid (Q.out.below o (by omega));have J:Hid (Below w.heap.size w P):=B.out.trans (o.mono (by omega));have y:=hid F;obtain ⟨G,R⟩:∃ G,G=w.heap.size+1:=⟨_,rfl⟩;(have ab:w.heap.size+1<=G:=by omega);rw[<- R] at y ⊢;clear o F R B Q h;go_wp2
  go_loopw [5, 6] (fun ve vi wr => ∃ (k e : Nat) (a : List Int), e <= s.size /\ 4 * k + e <= s.size + 3 /\ (e = 0 ∨ 4 * k + e = s.size) /\ ve = .int .i64 e /\ vi = .int .i64 k /\ a.length = s.size / 4 + 1 /\ Hid (yg a) /\
      Hid ((dv s.data.toList : Int) = dv (s.data.toList.take e) * 10000 ^ k + val (a.take k)) /\ Hid (∀ t, k <= t -> lm a t = 0) /\ Hid (Blk wr G a) /\ Hid (Below G P wr)) (fun ve _ _ => (intOf ve).toNat)
  case atStart=>refine ⟨0,s.size,_,Nat.le_refl _,by omega,.inr (by omega),rfl,rfl,by simp,jBV _,?_,fun t _=>jCx _ t,y.out,Below.refl _ _⟩;show _=_;rw[List.take_of_length_le (by omega)];simp[val]
  case round=>
    obtain ⟨k,e,a,he,Y,S,rfl,rfl,u,g,n,d,b,M⟩:=hrel;by_cases U:e=0
    · subst U;(have D:Hid ((val a).toNat=dv s.data.toList):=by have I:=n.out;rw[List.take_zero,jLt,jCd a k (fun i hi _=>d.out i hi)] at I;show _=_;simp at I;omega);have m:=hid (Blk.row0 b.out (s.size / 4+1) (s.size / 4+1) u.symm (Nat.le_refl _) (by unfold maxLen;omega));have N:G<wr.heap.size:=b.out.lt;go_wp2_with fail;refine (jDF _ (s.size / 4+1) (s.size / 4+1) a _ m.out g.out (by omega)).mono ?_;rintro e w4 ⟨j,X,E,rfl,p⟩;have C:Hid (Below G P w4):=M.out.trans (p.mono (by omega));have Z:=hid (T.out.below C.out (by omega));have z1:=Z.out.cell 0 _ rfl;have z2:=Z.out.frozen 0;have L:=hid (jBZ m.out X E D.out p);clear p E;go_wp2;refine bodyPost_ret (v:=.tuple #[.agg #[.slice (some ⟨G,0,none⟩) j (s.size / 4+1)],.bool true]) (by simp[results,Tryz.results140,go_sem,z1]) rfl ⟨_,rfl,⟨_,_,_,rfl,L.out.other _ _ _ Z.out (by decide)⟩,?_⟩;exact (J.out.trans (C.out.mono (by omega))).setCell (Nat.le_refl _) _
    · have N:G<wr.heap.size:=b.out.lt;(have H:k<a.length:=by omega);have g1:=b.out.cell k H;have g2:=b.out.frozen k;(have l:(s.extract (e - 4) e).data.toList=(s.data.toList.take e).drop (e - 4):=by rw[Go.Lib.extract_data,List.drop_take]);(have f:Hid ((s.extract (e - 4) e).data.toList.all yx=true):=by show _=_;rw[l,List.all_eq_true];intro x hx;exact List.all_eq_true.1 A.out x (List.mem_of_mem_take (List.mem_of_mem_drop hx)));(have q:(s.extract (e - 4) e).size<=4:=by (have:(s.extract (e - 4) e).data.toList.length=(s.extract (e - 4) e).size:=by rw[Array.length_toList];rfl);rw[l,List.length_drop,List.length_take] at this;omega);have c:=hid (jIf s.data.toList e k a H (by omega) n.out);(have r:Hid (dv ((s.data.toList.take e).drop (e - 4))<10000):=by have I:=jI7 _ f.out;rw[l] at I;(have V:((s.data.toList.take e).drop (e - 4)).length<=4:=by rw[List.length_drop,List.length_take];omega);have:(10:Nat) ^ ((s.data.toList.take e).drop (e - 4)).length<=10 ^ 4:=Nat.pow_le_pow_right (by omega) V;show _ < _;omega);have K:=hid l;clear l;(have aa:(0:Int)<(e:Int):=by omega);by_cases h4:e<4
      · (have W:(e:Int) - 4<0:=by omega);(have z:e - 4=0:=by omega);rw[z] at c f q r K;clear z;go_wp2_with fail;refine (jE5 _ _ q f.out).mono ?_;rintro _ _ ⟨rfl,rfl⟩;rw[K.out];go_wp2
        go_roundw
        (case rel=>exact ⟨k+1,0,_,by omega,by omega,.inl rfl,rfl,by go_num,by simpa using u,jB4 g.out k _ (by omega) (by have:=r.out;omega),c.out,fun t ht=>(jGH a k t _ (by omega)).trans (d.out t (by omega)),b.out.set k _,M.out.setCell (Nat.le_refl _) _⟩);case measure=>simp[intOf];omega
      · (have W:¬ (e:Int) - 4<0:=by omega);go_wp2_with fail;refine (jE5 _ _ q f.out).mono ?_;rintro _ _ ⟨rfl,rfl⟩;rw[K.out];go_wp2
        go_roundw
        (case rel=>exact ⟨k+1,e - 4,_,by omega,by omega,by omega,by go_num,by go_num,by simpa using u,jB4 g.out k _ (by omega) (by have:=r.out;omega),c.out,fun t ht=>(jGH a k t _ (by omega)).trans (d.out t (by omega)),b.out.set k _,M.out.setCell (Nat.le_refl _) _⟩);case measure=>simp[intOf];omega
def Tab (w:World):Prop:=Go.Lib.TabIs Tryz.prog w "internal/strconv.uint64pow10" .u64 Go.Lib.pow10Tab
theorem Tab.below {w w':World}(h:Tab w)(hb:Below w.heap.size w w'):Tab w':=by
 unfold Tab Go.Lib.TabIs World.var? at *
 cases hg:Tryz.prog.globalNamed "internal/strconv.uint64pow10" with
 | none=>simp[hg] at h
 | some g=>
  simp only[hg,Option.bind_some] at h ⊢
  have hlt:g<w.heap.size:=by
   rcases Nat.lt_or_ge g w.heap.size with h' | h'
   ·exact h'
   ·rw[Array.getElem?_eq_none h'] at h;simp at h
  rw[hb.block g hlt];exact h
theorem jHU (w:World) (k:Nat) (os:Array Obj):Below w.heap.size w (Go.Sort.grow (w.drewN k) os):=
  ⟨rfl,rfl,rfl,by show w.heap.size<=(w.heap ++ os).size;simp,fun i hi=>by show (w.heap ++ os)[i]? = _;rw[Array.getElem?_append_left hi]⟩
theorem jH0 (n:Int)(h0:-9223372036854775808<=n)(h1:n<=9223372036854775807)(w:World)(ht:Tab w):Calls Tryz.prog 111 #[.int .i64 n] w fun e w'=>e = .returned (.string ⟨(Go.Lib.itoa n).toArray⟩)/\Below w.heap.size w w':=by
 refine (Any.strconv_Itoa Tryz.laysM171 n h0 h1 w ht).mono ?_;rintro e w' ⟨rfl,k,a,rfl⟩;exact ⟨rfl,jHU w k a⟩
def Byt (base:Nat)(w:World)(v:Value)(l:List UInt8):Prop:=
  ∃ g cap,v = .slice (some ⟨g,0,none⟩) l.length cap/\base<=g/\g<w.heap.size/\l.length<=cap/\cap<=maxLen/\
    (∀ j,j<cap->(w.cell? ⟨g,j,none⟩).isSome=true/\w.frozen? ⟨g,j,none⟩=false)/\(∀ j (hj:j<l.length),w.cell? ⟨g,j,none⟩=some (.int .u8 (l[j].toNat:Int)))
theorem Byt.below {base:Nat}{w w':World}{v:Value}{l:List UInt8}(h:Byt base w v l)(hb:Below w.heap.size w w'):Byt base w' v l:=by
 obtain ⟨g,b,rfl,c,a,d,e,f,i⟩:=h;refine ⟨g,b,rfl,c,Nat.lt_of_lt_of_le a hb.size,d,e,fun j hj=>?_,fun j hj=>?_⟩
 ·rw[hb.cell (p:=⟨g,j,none⟩) a,hb.frozen (p:=⟨g,j,none⟩) a];exact f j hj
 ·rw[hb.cell (p:=⟨g,j,none⟩) a];exact i j hj
theorem Tryz.infoByte:(Tryz.prog.info? 5).map (fun i=>(i.zero,i.size,i.bytes))=some (some (.int .u8 0),1,1):=by kernel_rfl
theorem jHM {base n:Nat}{w:World}{v:Value}{l:List UInt8}(h:w.ownsRow base 5 1 v n (l.map fun c=>Value.int .u8 c.toNat))(hn:n=l.length)(hp:0<n):Byt base w v l:=by
 rcases h.2 with ⟨_,p⟩ | ⟨g,b,d,rfl,o,a,i,k,m,f⟩
 ·omega
 ·subst hn;rw[Nat.mul_one] at m f;refine ⟨g,b,rfl,o,(Array.getElem?_eq_some_iff.1 a).1,i,k,fun j hj=>⟨?_,frozen_of_row w g j _ _ a⟩,fun j hj=>?_⟩
  ·rw[cell_of_row w g j _ _ _ a,Array.getElem?_eq_getElem (by omega)];rfl
  ·rw[cell_of_row w g j _ _ _ a];(have e:(d.toList.take l.length)[j]? = (l.map fun c=>Value.int .u8 c.toNat)[j]?:=by rw[f]);rw[List.getElem?_take,if_pos hj,Array.getElem?_toList] at e;rw[e];simp[hj]
theorem jA3 (w:World){ops:Array Oper}{rest:List Oper}{o:Oper}{a:Act}{Q:Exit->Act->World->Prop}(hgd:o.guard=none)(s x:Operand)(hop:o.op=Op.call { callee:=Callee.builtin Builtin.append,args:=#[s,x],argTypes:=#[164,164] })(base:Nat)(v:Value)(l:List UInt8)(c:UInt8)(ad:Addr)(hs:a.eval s=v)(hx:a.eval x = .slice (some ad) 1 1)(hb:Byt base w v l)(hc:w.cell? ad=some (.int .u8 c.toNat))(hl:l.length<=1000000)(hbase:base<=w.heap.size)(hK:∀ v' w',Byt base w' v' (l ++ [c])->Below base w w'->wpList Tryz.prog ops Q rest (a.put o.dst v') w'):wpList Tryz.prog ops Q (o :: rest) a w:=by
  obtain ⟨i,hi,hz0,hz1,hz2⟩:=info_parts Tryz.infoByte;obtain ⟨g,cap,rfl,h1,h2,h3,h4,h5,h6⟩:=hb
  have hnew:∀ j u,[Value.int .u8 (c.toNat:Int)][j]? = some u->w.cell? (ad.add j)=some u:=by
    intro j u hj
    match j,hj with
    | 0,hj=>simp at hj;subst hj;simpa [Addr.add] using hc
  refine wpList_append_arg w hgd s x _ hop 5 i (.int .u8 0) 1 1 Tryz.underlying164 hi hz0 hz1 hz2 rfl (by decide) g 0 l.length cap (l.map fun c=>Value.int .u8 c.toNat) hs (by simp) ?_ ad 1 1 [.int .u8 c.toNat] hx rfl hnew (fun u hu=>by simp at hu;subst hu;rfl) ?_ (by unfold maxLen;omega) (by omega) ?_ ?_
  · intro j u hj;(have hjl:j<l.length:=by have:=(List.getElem?_eq_some_iff.1 hj).1;simpa using this);rw[Nat.zero_add,h6 j hjl,<- hj];simp[hjl]
  · intro hr j hj;(have e0:j=0:=by simpa using hj);subst e0;exact h5 _ (by omega)
  · intro hr;(have hset:w.setCells g (0+l.length*1) [Value.int .u8 (c.toNat:Int)]=w.setCell ⟨g,l.length,none⟩ (.int .u8 c.toNat):=by simp[World.setCells]);rw[hset];refine hK _ _ ⟨g,cap,by simp,h1,by simpa [World.setCell] using h2,by simpa using hr,h4,fun j hj=>?_,fun j hj=>?_⟩ (brf.setCell h1 _)
    · have:=World.frozen?_setCells g [Value.int .u8 (c.toNat:Int)] l.length w ⟨g,j,none⟩;rw[show w.setCells g l.length [Value.int .u8 (c.toNat:Int)]=w.setCell ⟨g,l.length,none⟩ (.int .u8 c.toNat) from rfl] at this;refine ⟨?_,this.trans (h5 j hj).2⟩;by_cases e:j=l.length
      · subst e
        have := World.cell?_setCells_in g [Value.int .u8 (c.toNat : Int)] l.length w (fun j hj => by have e0 : j = 0 := by simpa using hj
                                                                                                     subst e0; exact (h5 _ (by omega)).1) 0 (by simp)
        rw[show w.setCells g l.length [Value.int .u8 (c.toNat:Int)]=w.setCell ⟨g,l.length,none⟩ (.int .u8 c.toNat) from rfl,Nat.add_zero] at this;rw[this];rfl
      · have:=World.cell?_setCells_out g [Value.int .u8 (c.toNat:Int)] l.length w ⟨g,j,none⟩ (fun _ _=>by simp;omega);rw[show w.setCells g l.length [Value.int .u8 (c.toNat:Int)]=w.setCell ⟨g,l.length,none⟩ (.int .u8 c.toNat) from rfl] at this;rw[this];exact (h5 j hj).1
    · by_cases e:j=l.length
      · subst e
        have := World.cell?_setCells_in g [Value.int .u8 (c.toNat : Int)] l.length w (fun j hj => by have e0 : j = 0 := by simpa using hj
                                                                                                     subst e0; exact (h5 _ (by omega)).1) 0 (by simp)
        rw[show w.setCells g l.length [Value.int .u8 (c.toNat:Int)]=w.setCell ⟨g,l.length,none⟩ (.int .u8 c.toNat) from rfl,Nat.add_zero] at this;rw[this];simp
      · (have hjl:j<l.length:=by simp at hj;omega);have:=World.cell?_setCells_out g [Value.int .u8 (c.toNat:Int)] l.length w ⟨g,j,none⟩ (fun _ _=>by simp;omega);rw[show w.setCells g l.length [Value.int .u8 (c.toNat:Int)]=w.setCell ⟨g,l.length,none⟩ (.int .u8 c.toNat) from rfl] at this;rw[this,h6 j hjl,List.getElem_append_left hjl]
  · intro hr v' w' ho hg;have hB:=jHM (l:=l ++ [c]) (by simpa using ho) (by simp) (by omega);obtain ⟨g',cap',e,h1',rest⟩:=hB;exact hK v' w' ⟨g',cap',e,by omega,rest⟩ ((Below.refl base w).grown hg hbase (fun k e=>by cases e))
theorem jFv (w:World)(s:ByteArray)(hs:s.size<=1000000):∃ v w',(convert 9 164 (.string s)).run Tryz.prog w = .ok v w'/\Byt w.heap.size w' v s.data.toList/\Below w.heap.size w w':=by
 refine ⟨_,_,run_bytes_of_string w _ _ 5 s Tryz.underlying9 Tryz.underlying164 Tryz.underlying5,?_,?_⟩
 ·have g:=grownCap_ge w s.size 0 5;have c:=grownCap_le_maxLen w s.size 0 5 (by unfold maxLen;omega);generalize grownCap w s.size 0 5=C at *;(have e:s.data.toList.length=s.size:=by simp);(have f:(bytesRow s C).size=C:=by have:s.data.size=s.size:=rfl;simp[bytesRow];omega);have b:(w.drew.alloc (.cells (bytesRow s C) 5 ((bytesRow s C).size,(bytesRow s C).size+1))).heap[w.heap.size]? = some (.cells (bytesRow s C) 5 ((bytesRow s C).size,(bytesRow s C).size+1)):=heap_alloc_new w.drew _;refine ⟨w.heap.size,C,by rw[e],Nat.le_refl _,(Array.getElem?_eq_some_iff.1 b).1,by omega,c,fun j hj=>⟨?_,?_⟩,fun j hj=>?_⟩
  ·rw[cell_of_row _ _ j _ _ _ b,Array.getElem?_eq_getElem (by omega)];rfl
  ·(have d:¬ C<=j:=by omega);unfold World.frozen?;simp only[];rw[b];simp[f,d]
  ·rw[cell_of_row _ _ j _ _ _ b];(have a:j<s.data.size:=by simpa using hj);unfold bytesRow;rw[Array.getElem?_append_left (by simpa using a),Array.getElem?_map,Array.getElem?_eq_getElem a];rfl
 ·exact brf.drew.alloc (Nat.le_refl _) _
theorem jF2 {base:Nat}{w:World}{v:Value}{l:List UInt8}(h:Byt base w v l):(convert 164 9 v).run Tryz.prog w = .ok (.string ⟨l.toArray⟩) w:=by
 obtain ⟨g,a,rfl,c,d,e,f,i,b⟩:=h;exact run_convert_bytes_back w _ _ 5 ⟨g,0,none⟩ a l Tryz.underlying164 Tryz.underlying5 Tryz.underlying9 (fun j hj=>by rw[Addr.add_lit,Nat.zero_add];exact b j hj)
theorem Byt.mono {base base':Nat}{w:World}{v:Value}{l:List UInt8}(h:Byt base w v l)(hb:base'<=base):Byt base' w v l:=by
 obtain ⟨g,b,e,c,a⟩:=h;exact ⟨g,b,e,Nat.le_trans hb c,a⟩
theorem jFL (base:Nat)(v:Value)(l:List UInt8)(m:Nat)(w:World)(hv:Byt base w v l)(hm:m<10000)(hl:l.length<=900000)(hb:base<=w.heap.size):Calls Tryz.prog 145 #[v,.int .i64 m] w fun e w'=>∃ v',e = .returned v'/\Byt base w' v' (l ++ pad4 m)/\Below base w w':=by
 have o:=hid hv;clear hv;go_enter Tryz.func145,Tryz.ntmps145;go_wp2
 go_loopw [0,5] (fun v0 vu wr=>∃ (j u:Nat),((j=0/\u=1000)∨(j=1/\u=100)∨(j=2/\u=10)∨(j=3/\u=1)∨(j=4/\u=0))/\vu = .int .i64 u/\Hid (Byt base wr v0 (l ++ (pad4 m).take j))/\Hid (Below base w wr)) (fun _ vu _=>(intOf vu).toNat)
 case atStart=>exact ⟨0,1000,.inl ⟨rfl,rfl⟩,rfl,by simpa [Hid] using o.out,Below.refl _ _⟩
 case round=>
  obtain ⟨j,u,n,rfl,i,b⟩:=hrel;rcases n with ⟨rfl,rfl⟩ | ⟨rfl,rfl⟩ | ⟨rfl,rfl⟩ | ⟨rfl,rfl⟩ | ⟨rfl,rfl⟩
  ·(have h:(((UInt8.ofNat (48+m / 1000 % 10)).toNat:Nat):Int)=48+(m:Int) / 1000 % 10:=by rw[jBX _ (by omega)];omega);(have a:(wr.alloc (.cells #[.int .u8 (48+(m:Int) / 1000 % 10)] 5)).cell? ⟨wr.heap.size,0,none⟩=some (.int .u8 ((UInt8.ofNat (48+m / 1000 % 10)).toNat:Nat)):=by rw[h];exact (jAC wr _ _).cell 0 _ rfl);have k:=hid a;clear h a;go_wp2_with (at_builtin;refine jA3 _ rfl _ _ rfl base _ (l ++ (pad4 m).take 0) (UInt8.ofNat (48+m / 1000 % 10)) ⟨wr.heap.size,0,none⟩ rfl rfl (i.out.below (brf.alloc (Nat.le_refl _) _)) k.out (by simp[pad4];omega) (by have:=b.out.size;simp;omega) ?_);intro v' w' c d;have f:=hid c;have g:Hid (Below base w w'):=b.out.trans ((brf.alloc (by have:=b.out.size;omega) _).trans d);clear c d i b;go_wp2
   go_roundw
   (case rel=>exact ⟨1,100,by simp,rfl,by simpa [pad4,Hid] using f.out,g.out⟩);case measure=>simp[intOf]
  ·(have h:(((UInt8.ofNat (48+m / 100 % 10)).toNat:Nat):Int)=48+(m:Int) / 100 % 10:=by rw[jBX _ (by omega)];omega);(have a:(wr.alloc (.cells #[.int .u8 (48+(m:Int) / 100 % 10)] 5)).cell? ⟨wr.heap.size,0,none⟩=some (.int .u8 ((UInt8.ofNat (48+m / 100 % 10)).toNat:Nat)):=by rw[h];exact (jAC wr _ _).cell 0 _ rfl);have k:=hid a;clear h a;go_wp2_with (at_builtin;refine jA3 _ rfl _ _ rfl base _ (l ++ (pad4 m).take 1) (UInt8.ofNat (48+m / 100 % 10)) ⟨wr.heap.size,0,none⟩ rfl rfl (i.out.below (brf.alloc (Nat.le_refl _) _)) k.out (by simp[pad4];omega) (by have:=b.out.size;simp;omega) ?_);intro v' w' c d;have f:=hid c;have g:Hid (Below base w w'):=b.out.trans ((brf.alloc (by have:=b.out.size;omega) _).trans d);clear c d i b;go_wp2
   go_roundw
   (case rel=>exact ⟨2,10,by simp,rfl,by simpa [pad4,Hid] using f.out,g.out⟩);case measure=>simp[intOf]
  ·(have h:(((UInt8.ofNat (48+m / 10 % 10)).toNat:Nat):Int)=48+(m:Int) / 10 % 10:=by rw[jBX _ (by omega)];omega);(have a:(wr.alloc (.cells #[.int .u8 (48+(m:Int) / 10 % 10)] 5)).cell? ⟨wr.heap.size,0,none⟩=some (.int .u8 ((UInt8.ofNat (48+m / 10 % 10)).toNat:Nat)):=by rw[h];exact (jAC wr _ _).cell 0 _ rfl);have k:=hid a;clear h a;go_wp2_with (at_builtin;refine jA3 _ rfl _ _ rfl base _ (l ++ (pad4 m).take 2) (UInt8.ofNat (48+m / 10 % 10)) ⟨wr.heap.size,0,none⟩ rfl rfl (i.out.below (brf.alloc (Nat.le_refl _) _)) k.out (by simp[pad4];omega) (by have:=b.out.size;simp;omega) ?_);intro v' w' c d;have f:=hid c;have g:Hid (Below base w w'):=b.out.trans ((brf.alloc (by have:=b.out.size;omega) _).trans d);clear c d i b;go_wp2
   go_roundw
   (case rel=>exact ⟨3,1,by simp,rfl,by simpa [pad4,Hid] using f.out,g.out⟩);case measure=>simp[intOf]
  ·(have h:(((UInt8.ofNat (48+m % 10)).toNat:Nat):Int)=48+(m:Int) % 10:=by rw[jBX _ (by omega)];omega);(have a:(wr.alloc (.cells #[.int .u8 (48+(m:Int) % 10)] 5)).cell? ⟨wr.heap.size,0,none⟩=some (.int .u8 ((UInt8.ofNat (48+m % 10)).toNat:Nat)):=by rw[h];exact (jAC wr _ _).cell 0 _ rfl);have k:=hid a;clear h a;go_wp2_with (at_builtin;refine jA3 _ rfl _ _ rfl base _ (l ++ (pad4 m).take 3) (UInt8.ofNat (48+m % 10)) ⟨wr.heap.size,0,none⟩ rfl rfl (i.out.below (brf.alloc (Nat.le_refl _) _)) k.out (by simp[pad4];omega) (by have:=b.out.size;simp;omega) ?_);intro v' w' c d;have f:=hid c;have g:Hid (Below base w w'):=b.out.trans ((brf.alloc (by have:=b.out.size;omega) _).trans d);clear c d i b;go_wp2
   go_roundw
   (case rel=>exact ⟨4,0,by simp,rfl,by simpa [pad4,Hid] using f.out,g.out⟩);case measure=>simp[intOf]
  ·go_wp2;go_ret;exact ⟨_,rfl,by have:=i.out;simpa [pad4] using this,b.out⟩
open Go.Lib (decDigits)
theorem jDm (xs:List Int)(i:Nat)(h:i<xs.length):val (xs.drop i)=lm xs i+10000*val (xs.drop (i+1)):=by
 rw[List.drop_eq_getElem_cons h,val];unfold lm;simp[h]
theorem jKz (m k:Nat)(hk:k<(zA m).length):1<=val ((zA m).drop k):=by
 have a:=jBc (jAJ m) k;have d:=jAd a;by_cases h:1<=val ((zA m).drop k)
 ·exact h
 ·exfalso;(have e:val ((zA m).drop k)=0:=by omega);(have c:xO ((zA m).drop k):=by have:=jBj m;unfold xO at *;rw[List.getLast?_drop,if_neg (by omega)];exact this);have:=jFt a c;rw[e] at this;have b:=congrArg List.length this;rw[List.length_drop] at b;have:(zA (Int.toNat 0)).length=0:=rfl;omega
theorem jKR (m k:Nat)(hk:k+1<(zA m).length):decDigits (val ((zA m).drop (k+1))).toNat ++ pad4 (lm (zA m) k).toNat=decDigits (val ((zA m).drop k)).toNat:=by
 have a:=jKz m (k+1) hk;have b:=jAM (jAJ m) k;have c:=jDm (zA m) k (by omega);rw[<- jMD _ _ (by omega) (by omega)];congr 1;omega
theorem jBO (m n:Nat)(h:(zA m).length=n):(decDigits m).length<=4*n+1:=by
 refine jBa (by omega) ?_;have:=jBQ m;rw[h] at this;(have e:(10000:Nat) ^ n=10 ^ (4*n):=by rw[Nat.pow_mul]);rw[Nat.pow_succ];omega
theorem jC3 (ao:Option Addr)(n cap m:Nat)(w:World)(hr:Row w ao n cap (zA m))(hn:n<=40000)(ht:Tab w):Calls Tryz.prog 125 #[.agg #[.slice ao n cap]] w fun e w'=>e = .returned (.string ⟨(decDigits m).toArray⟩)/\Below w.heap.size w w':=by
  have l1:=hr.len;have F:=hid (jAC w #[.slice ao n cap] 116);have d:=hid ((Below.refl _ w).alloc (Nat.le_refl _) (.cells #[.slice ao n cap] 116));by_cases R:n=0
  · have U:m=0:=jEE.1 (List.eq_nil_of_length_eq_zero (by omega));subst R;(have e:decDigits 0 = [48]:=by rw[jDZ (by omega)];rfl);rw[U,e];clear hr;go_enter Tryz.func125,Tryz.ntmps125;go_wp2;go_ret;exact ⟨rfl,d.out⟩
  · obtain ⟨b,o,rfl,B⟩:=hr.head (by omega);obtain ⟨q,rfl⟩:∃ q,n=q+1:=⟨n - 1,by omega⟩;have O:=hr.cell b o rfl q (by omega);have L:=hid hr;have M:=hid (ht.below d.out);obtain ⟨t0,t1⟩:=jAM (jAJ m) q;(have r:Hid (Go.Lib.itoa (lm (zA m) q)=decDigits (lm (zA m) q).toNat):=by show _=_;unfold Go.Lib.itoa;rw[if_neg (by omega)]);(have A:Hid ((Go.Lib.itoa (lm (zA m) q)).length<=4):=by show _<=_;rw[r.out];exact jBa (by omega) (by omega));(have S:(((q:Int)+1) == 0)=false:=by rw[beq_eq_false_iff_ne];omega);clear hr ht;go_enter Tryz.func125,Tryz.ntmps125;go_wp2_with fail;refine (jH0 _ (by omega) (by omega) _ M.out).mono ?_;rintro e X ⟨rfl,a⟩
    obtain ⟨v, u, J, i, f⟩ := jFv X ⟨(Go.Lib.itoa (lm (zA m) q)).toArray⟩ (by
      have := A.out
      show (Go.Lib.itoa (lm (zA m) q)).toArray.size <= _
      rw [List.size_toArray]; omega)
    have C:=a.size;simp only[World.size_alloc] at C;have j:Hid (Below w.heap.size w u):=d.out.trans ((a.mono (by simp)).trans (f.mono (by omega)));have N:Hid (Bx u w.heap.size #[.slice (some ⟨b,o,none⟩) (q+1) cap] 116):=(F.out.below a F.out.lt).below f (by omega);(have K:Hid (Byt (w.heap.size+1) u v (decDigits (val ((zA m).drop q)).toNat)):=by (have H:val ((zA m).drop q)=lm (zA m) q:=by rw[jDm _ q (by omega),List.drop_of_length_le (by omega)];simp[val]);rw[H,<- r.out];exact i.mono (by omega));clear a f i;go_wp2
    go_loopw [5,6] (fun vt vi wr=>∃ k:Nat,k<=q/\vi = .int .i64 ((k:Int) - 1)/\Hid (Byt (w.heap.size+1) wr vt (decDigits (val ((zA m).drop k)).toNat))/\Hid (Below (w.heap.size+1) u wr)) (fun _ vi _=>(intOf vi+1).toNat)
    case atStart=>exact ⟨q,Nat.le_refl _,by go_num,K.out,Below.refl _ _⟩
    case round=>
      obtain ⟨k,Z,rfl,i,t⟩:=hrel;by_cases W:k=0
      · subst W;have h:=jF2 i.out;(have e:Hid ((val ((zA m).drop 0)).toNat=m):=by show _=_;rw[List.drop_zero,jAg];omega);rw[e.out] at h;go_wp2;go_ret;exact ⟨rfl,j.out.trans (t.out.mono (by omega))⟩
      · obtain ⟨p,rfl⟩:∃ p,k=p+1:=⟨k - 1,by omega⟩;(have V:(0:Int)<=((p+1:Nat):Int) - 1:=by omega);have x1:=(N.out.below t.out (by omega)).cell 0 _ rfl;have y:Hid (Below w.heap.size w wr):=j.out.trans (t.out.mono (by omega));have Y:wr.cell? ⟨b,o+p,none⟩=some (.int .i64 (lm (zA m) p)):=(y.out.cell (p:=⟨b,o+p,none⟩) B).trans (L.out.cell b o rfl p (by omega));have D:=hid (jKR m p (by omega));obtain ⟨u0,u1⟩:=jAM (jAJ m) p
        have s:Hid ((decDigits (val ((zA m).drop (p+1))).toNat).length<=900000):=by
          have T := jBa (n := (val ((zA m).drop (p + 1))).toNat) (k := 4 * ((zA m).length - (p + 1)) + 1) (by omega) (by
            have I := jDJ (jBc (jAJ m) (p + 1))
            rw [List.length_drop] at I
            have H : ((10000 ^ ((zA m).length - (p + 1)) : Nat) : Int) = 10000 ^ ((zA m).length - (p + 1)) := Int.natCast_pow 10000 _
            have Q : (10000 : Nat) ^ ((zA m).length - (p + 1)) = 10 ^ (4 * ((zA m).length - (p + 1))) := by rw [Nat.pow_mul]
            have hp : 0 < (10000 : Nat) ^ ((zA m).length - (p + 1)) := Nat.pow_pos (by omega)
            rw [Nat.pow_succ, <- Q]
            generalize (10000 : Nat) ^ ((zA m).length - (p + 1)) = P at *
            omega)
          show _<=_;omega
        (have E:w.heap.size+1<=wr.heap.size:=by obtain ⟨g,G,_,T,I,_⟩:=i.out;omega);clear O;go_wp2_with fail;rw[show lm (zA m) p=((lm (zA m) p).toNat:Int) from by omega];refine (jFL (w.heap.size+1) _ _ (lm (zA m) p).toNat _ i.out (by omega) s.out E).mono ?_;rintro e w4 ⟨v',rfl,c,l⟩;rw[D.out] at c;have x:=hid c;have z:=hid l;clear c l;go_wp2
        go_roundw
        (case rel=>exact ⟨p,by omega,by go_num,x.out,t.out.trans z.out⟩);case measure=>simp[intOf]
end Go.Proofs.YtigokanoflkinabGreatDoor
