/- CmC, CmD, CmE, joined. -/
import Derived.Test.YtigokanoflkinabGreatDoorCmAB
import Derived.Laws.CopyOwn
import Derived.Deep.MidRow
set_option maxHeartbeats 2000000
set_option maxRecDepth 20000
namespace Go.Proofs.YtigokanoflkinabGreatDoor
set_option linter.unusedSimpArgs false
set_option linter.unusedVariables false
open Go.RowKit Por
theorem FL.cUsed {w:World}{b:Nat}{F:Flt}(h:FL w b F){u q:Nat}(hu:u<6)(hq:q<4):w.cell? ⟨b,43+u*22+18+q,none⟩=some (.int .i64 (F.used u q))∧w.frozen? ⟨b,43+u*22+18+q,none⟩=false:=by
 obtain ⟨M,h1,h2⟩:=h;rw[h1.cell (by omega),h2.used u hu q hq];exact ⟨rfl,h1.frozen _⟩
theorem FWf.wanted {R:Int} {F:Flt} (h:FWf R F) {u r:Nat} (hu:u<6) (hr:r<4):0≤F.ud u r*runs F.m u∧F.ud u r*runs F.m u≤400000:=
  jBe (h.ud u hu r hr) (show 0≤runs F.m u∧runs F.m u≤40 from ⟨h.runs0 hu,by have:=h.tot u hu;have:=h.wait u hu;omega⟩)
theorem jLT (xs:List Int)(h:xs.length≤4):splice [.int .i64 0,.int .i64 0,.int .i64 0,.int .i64 0] 0 (ints xs)=(av (amtF xs)).toList:=by
 match xs,h with
 | [],_=>rfl
 | [a],_=>rfl
 | [a,b],_=>rfl
 | [a,b,c],_=>rfl
 | [a,b,c,d],_=>rfl
theorem jEp (w0 w:World){ops:Array Oper}{rest:List Oper}{o:Oper}{a:Act}{Q:Exit→Act→World→Prop}(hgd:o.guard=none)(d s:Operand)(ho:o.op = .call { callee:=.builtin .copy,args:=#[d,s],argTypes:=#[28,28] })(g n cap:Nat)(ao:Option Addr)(xs:List Int)(hd:a.eval d = .slice (some ⟨g,0,none⟩) 4 4)(hs:a.eval s = .slice ao n cap)(hz:Bx w g #[.int .i64 0,.int .i64 0,.int .i64 0,.int .i64 0] 68)(hr:Arr w 1 ao n cap (ints xs))(hnm:n≤4)(hb:Below w0.heap.size w0 w)(hle:w0.heap.size≤g)(h:∀ w',Hid (Bx w' g (av (amtF xs)) 68)→Below w0.heap.size w0 w'→wpList Tryz.prog ops Q rest (a.put o.dst (goInt n)) w'):wpList Tryz.prog ops Q (o :: rest) a w:=by
  have hl:=hr.len;rw[jAG] at hl;subst hl;(have e:(ints xs).length=Nat.min xs.length 4:=by rw[jAG];exact (Nat.min_eq_left hnm).symm);refine wpList_copy_splice hgd d s 28 28 ho 3 Tryz.underlying28 Tryz.sizeInt _ _ _ _ _ _ hd hs g 0 [.int .i64 0,.int .i64 0,.int .i64 0,.int .i64 0] 68 hz (ints xs) e ?_ (by rw[jAG];simp;omega) ?_ w0.heap.size w0 hb hle ?_
  · intro h0;rw[jAG] at h0;obtain ⟨b,of,rfl,hlt⟩:=hr.head h0;refine ⟨rfl,_,rfl,fun j v hv=>?_⟩;have hj:j<xs.length:=by have:=(List.getElem?_eq_some_iff.1 hv).1;rwa [jAG] at this
    have := hr.cell b of rfl j v hv 0 v (by
      rw [jC1 xs hj] at hv; cases hv; rfl)
    (have hadd:(⟨b,of,none⟩:Addr).add j=⟨b,of+j,none⟩:=by unfold Addr.add;split <;> simp_all);rw[hadd]
    simpa using this
  · intro v hv;unfold ints at hv;obtain ⟨x,_,rfl⟩:=List.mem_map.1 hv;rfl
  · intro w' hw hb';(have e2:goInt (ints xs).length=goInt xs.length:=by rw[jAG]);rw[e2];refine h w' ?_ hb';have h9:=hw.out;unfold Hid Bx;rw[h9,jLT xs hnm]
def sizeB (k:Nat)(xs:List Int):Bool:=decide (xs.length=k) && uptsB 1000 xs
theorem jDC (ao:Option Addr)(n cap:Nat)(xs:List Int)(w:World)(hr:Arr w 1 ao n cap (ints xs))(hn:n≤4):Calls Tryz.prog 66 #[.slice ao n cap] w fun e w'=>e = .returned (.agg (av (amtF xs)))∧Below w.heap.size w w':=by
 have HR:=hid hr;clear hr;have HB_0:=hid (Below.refl w.heap.size w);have XR_6:=hid (jAC w #[.int .i64 0,.int .i64 0,.int .i64 0,.int .i64 0] 68);have HB_6:Hid (Below w.heap.size w (w.alloc (.cells #[.int .i64 0,.int .i64 0,.int .i64 0,.int .i64 0] 68))):=HB_0.out.alloc HB_0.out.size (.cells #[.int .i64 0,.int .i64 0,.int .i64 0,.int .i64 0] 68);have leR:w.heap.size≤w.heap.size:=HB_0.out.size;clear HB_0;go_enter Tryz.func66,Tryz.ntmps66;(go_upto_region 1 with fail);obtain ⟨V,hV⟩:∃ V,V=(w.alloc (.cells #[.int .i64 0,.int .i64 0,.int .i64 0,.int .i64 0] 68)):=⟨_,rfl⟩;rw[← hV] at XR_6 HB_6 ⊢;clear hV;obtain ⟨rb,hrb⟩:∃ rb,rb=w.heap.size:=⟨_,rfl⟩;have hR:=XR_6;rw[← hrb] at hR ⊢;(have lrb:w.heap.size≤rb:=by omega);clear hrb XR_6;have HA:=hid (jAC V #[.int .i64 0,.int .i64 0,.int .i64 0,.int .i64 0] 68);have HBA:Hid (Below V.heap.size V (V.alloc (.cells #[.int .i64 0,.int .i64 0,.int .i64 0,.int .i64 0] 68))):=(Below.refl _ _).alloc (Nat.le_refl _) _;have hvl:w.heap.size≤V.heap.size:=HB_6.out.size;go_wp2_with (refine jEp V _ rfl (.tmp 4) (.tmp 5) rfl V.heap.size n cap ao xs rfl rfl HA.out ((HR.out.below HB_6.out).below HBA.out) hn HBA.out (Nat.le_refl _) ?_);intro w3 hA3 hb3;have HR3:=hid (hR.out.keep hb3);have HB3:Hid (Below w.heap.size w w3):=HB_6.out.trans (hb3.mono HB_6.out.size);clear hb3 HA HBA hR;have a0:=hA3.out.cell 0 _ rfl;have a1:=hA3.out.cell 1 _ rfl;have a2:=hA3.out.cell 2 _ rfl;have a3:=hA3.out.cell 3 _ rfl;have r0:=HR3.out.cell 0 _ rfl;have q0:=HR3.out.frozen 0;have r1:=HR3.out.cell 1 _ rfl;have q1:=HR3.out.frozen 1;have r2:=HR3.out.cell 2 _ rfl;have q2:=HR3.out.frozen 2;have r3:=HR3.out.cell 3 _ rfl;have q3:=HR3.out.frozen 3;have la:=hA3.out.lt;have lr:=HR3.out.lt;have HRF:Hid (Bx ((((w3.setCell ⟨rb,0,none⟩ (.int .i64 (amtF xs 0))).setCell ⟨rb,1,none⟩ (.int .i64 (amtF xs 1))).setCell ⟨rb,2,none⟩ (.int .i64 (amtF xs 2))).setCell ⟨rb,3,none⟩ (.int .i64 (amtF xs 3))) rb #[.int .i64 (amtF xs 0),.int .i64 (amtF xs 1),.int .i64 (amtF xs 2),.int .i64 (amtF xs 3)] 68):=HR3.out.put4 (.int .i64 (amtF xs 0)) (.int .i64 (amtF xs 1)) (.int .i64 (amtF xs 2)) (.int .i64 (amtF xs 3));have HBF:Hid (Below w.heap.size w ((((w3.setCell ⟨rb,0,none⟩ (.int .i64 (amtF xs 0))).setCell ⟨rb,1,none⟩ (.int .i64 (amtF xs 1))).setCell ⟨rb,2,none⟩ (.int .i64 (amtF xs 2))).setCell ⟨rb,3,none⟩ (.int .i64 (amtF xs 3)))):=jBD HB3.out lrb (.int .i64 (amtF xs 0)) (.int .i64 (amtF xs 1)) (.int .i64 (amtF xs 2)) (.int .i64 (amtF xs 3));go_wp2;have y0:=HRF.out.cell 0 _ rfl;have y1:=HRF.out.cell 1 _ rfl;have y2:=HRF.out.cell 2 _ rfl;have y3:=HRF.out.cell 3 _ rfl;refine bodyPost_ret (v:=.agg #[.int .i64 (amtF xs 0),.int .i64 (amtF xs 1),.int .i64 (amtF xs 2),.int .i64 (amtF xs 3)]) (by simp[results,Tryz.results66,go_sem,y0,y1,y2,y3]) rfl ⟨rfl,HBF.out⟩
theorem jH2 (ao:Option Addr)(n cap k:Nat)(xs:List Int)(w:World)(hr:Arr w 1 ao n cap (ints xs)):Calls Tryz.prog 65 #[.slice ao n cap,.int .i64 k] w fun e w'=>e = .returned (.bool (sizeB k xs))∧w'=w:=by
 have hlen:=hr.len;rw[jAG] at hlen;have HR:=hid hr;clear hr;go_enter Tryz.func65,Tryz.ntmps65;by_cases h1:n=k
 ·subst h1;(have h2:((n:Int) != (n:Int))=false:=by simp);go_wp2_with fail;refine (jCv ao n cap xs 1000 _ HR.out).mono ?_;rintro e1 w1 ⟨rfl,rfl⟩;(have HE:Hid (sizeB n xs=uptsB 1000 xs):=by unfold Hid sizeB;rw[decide_eq_true hlen,Bool.true_and]);go_wp2;go_ret;exact ⟨by rw[HE.out];rfl,rfl⟩
 ·(have h2:((n:Int) != (k:Int))=true:=by simp;omega);(have HE:Hid (sizeB k xs=false):=by unfold Hid sizeB;rw[decide_eq_false (by omega),Bool.false_and]);go_wp2;go_ret;exact ⟨by rw[HE.out];rfl,rfl⟩
def putL (M:Nat→Value):Nat→List Value→Nat→Value
  | _,[]=>M
  | o,v :: r=>putL (updV M o v) (o+1) r
theorem jE8:∀ (vs:List Value)(M:Nat→Value)(o j:Nat) ,(j<o∨o+vs.length≤j)→putL M o vs j=M j:=by
 intro vs
 induction vs with
 | nil=>intro M o j h;rfl
 | cons v r ih=>intro M o j h;simp only[List.length_cons] at h;simp only[putL];rw[ih _ _ _ (by omega),jAA _ _ (by omega)]
theorem jIa:∀ (vs:List Value)(M:Nat→Value)(o j:Nat)(x:Value) ,vs[j]? = some x→putL M o vs (o+j)=x:=by
 intro vs
 induction vs with
 | nil=>intro M o j x h;simp at h
 | cons v r ih=>
  intro M o j x h;simp only[putL]
  match j with
  | 0=>rw[jE8 _ _ _ _ (by omega),Nat.add_zero,jA4];simpa using h
  | j+1=>have:=ih (updV M o v) (o+1) j x (by simpa using h);rw[show o+(j+1)=o+1+j by omega];exact this
theorem FBk.setCells {w:World}{b:Nat}:∀ (vs:List Value) {M:Nat→Value} (o:Nat) {w:World},FBk w b M→FBk (w.setCells b o vs) b (putL M o vs):=by
 intro vs
 induction vs with
 | nil=>intro M o w h;exact h
 | cons v r ih=>intro M o w h;exact ih (o+1) (h.set o v)
theorem FBk.there {w:World}{b:Nat}{M:Nat→Value}(h:FBk w b M){o n:Nat}(hn:o+n≤180):w.there b o n:=fun j hj=>⟨by rw[h.cell (by omega)];rfl,h.frozen _⟩
theorem jAn {B b:Nat}{x:World}:∀ (vs:List Value) (o:Nat) {w:World},Only B b x w→Only B b x (w.setCells b o vs):=by
 intro vs
 induction vs with
 | nil=>intro o w h;exact h
 | cons v r ih=>intro o w h;exact ih (o+1) (h.setCell _ o v)
abbrev uvals (t:Bool)(d:Nat→Int)(wt cp wa:Int)(on:Nat→Int)(du:ByteArray)(rv:Int)(us:Nat→Int):List Value:=[.bool t,.int .i64 (d 0),.int .i64 (d 1),.int .i64 (d 2),.int .i64 (d 3),.int .i64 wt,.int .i64 cp,.int .i64 wa,.int .i64 (on 0),.int .i64 (on 1),.int .i64 (on 2),.int .i64 (on 3),.int .i64 (on 4),.int .i64 (on 5),.int .i64 (on 6),.int .i64 (on 7),.string du,.int .i64 rv,.int .i64 (us 0),.int .i64 (us 1),.int .i64 (us 2),.int .i64 (us 3)]
abbrev mvals (t:Bool)(d:Nat→Int):List Value:=[.bool t,.int .i64 (d 0),.int .i64 (d 1),.int .i64 (d 2),.int .i64 (d 3)]
def putU (F:Flt)(u:Nat)(t:Bool)(d:Nat→Int)(wt cp wa:Int)(on:Nat→Int)(du:ByteArray)(rv:Int)(us:Nat→Int):Flt:=
  { F with ut:=updT F.ut u t,ud:=updR F.ud u d,uw:=updI F.uw u wt,uc:=updI F.uc u cp,m:=⟨updI F.m.wait u wa,updR F.m.on u on,updI F.m.rev u rv⟩,due:=updB F.due u du,used:=updR F.used u us }
def putM (F:Flt)(i:Nat)(t:Bool)(d:Nat→Int):Flt:={ F with mt:=updT F.mt i t,ms:=updR F.ms i d }
theorem Enc.putUser {M:Nat→Value}{F:Flt}(h:Enc M F){u:Nat}(hu:u<6)(t:Bool)(d:Nat→Int)(wt cp wa:Int)(on:Nat→Int)(du:ByteArray)(rv:Int)(us:Nat→Int):Enc (putL M (43+u*22) (uvals t d wt cp wa on du rv us)) (putU F u t d wt cp wa on du rv us):=by
  (have hin:∀ j x,(uvals t d wt cp wa on du rv us)[j]? = some x→putL M (43+u*22) (uvals t d wt cp wa on du rv us) (43+u*22+j)=x:=fun j x hx=>jIa _ _ _ _ _ hx);(have hout:∀ j,(j<43+u*22∨43+u*22+22≤j)→putL M (43+u*22) (uvals t d wt cp wa on du rv us) j=M j:=fun j hj=>jE8 _ _ _ _ hj);refine ⟨?_,?_,?_,fun i hi=>?_,fun i hi r hr=>?_,fun v hv=>?_,fun v hv r hr=>?_,fun v hv=>?_,fun v hv=>?_,fun v hv=>?_,fun v hv m hm=>?_,fun v hv=>?_,fun v hv=>?_,fun v hv r hr=>?_,?_,fun r hr=>?_⟩
  · rw[hout _ (by omega)];exact h.k
  · rw[hout _ (by omega)];exact h.mg
  · rw[hout _ (by omega)];exact h.ug
  · rw[hout _ (by omega)];exact h.mt i hi
  · rw[hout _ (by omega)];exact h.ms i hi r hr
  · by_cases e:v=u
    · subst e;have e9:=hin 0 _ rfl;rw[Nat.add_zero] at e9;rw[e9];show _=Value.bool (updT F.ut v t v);unfold updT;rw[if_pos rfl]
    · rw[hout _ (by omega)];show _=Value.bool (updT F.ut u t v);unfold updT;rw[if_neg e];exact h.ut v hv
  · by_cases e:v=u
    · subst e
      rw [show 43 + v * 22 + 1 + r = 43 + v * 22 + (1 + r) by omega, hin (1 + r) (.int .i64 (d r)) (by
        have : r = 0 ∨ r = 1 ∨ r = 2 ∨ r = 3 := by omega
        rcases this with rfl | rfl | rfl | rfl <;> rfl)]
      show _=Value.int .i64 (updR F.ud v d v r);rw[jBG]
    · rw[hout _ (by omega)];show _=Value.int .i64 (updR F.ud u d v r);rw[jAW _ _ e];exact h.ud v hv r hr
  · by_cases e:v=u
    · subst e;rw[hin 5 _ rfl];show _=Value.int .i64 (updI F.uw v wt v);unfold updI;rw[if_pos rfl]
    · rw[hout _ (by omega)];show _=Value.int .i64 (updI F.uw u wt v);unfold updI;rw[if_neg e];exact h.uw v hv
  · by_cases e:v=u
    · subst e;rw[hin 6 _ rfl];show _=Value.int .i64 (updI F.uc v cp v);unfold updI;rw[if_pos rfl]
    · rw[hout _ (by omega)];show _=Value.int .i64 (updI F.uc u cp v);unfold updI;rw[if_neg e];exact h.uc v hv
  · by_cases e:v=u
    · subst e;rw[hin 7 _ rfl];show _=Value.int .i64 (updI F.m.wait v wa v);unfold updI;rw[if_pos rfl]
    · rw[hout _ (by omega)];show _=Value.int .i64 (updI F.m.wait u wa v);unfold updI;rw[if_neg e];exact h.wait v hv
  · by_cases e:v=u
    · subst e
      rw [show 43 + v * 22 + 8 + m = 43 + v * 22 + (8 + m) by omega, hin (8 + m) (.int .i64 (on m)) (by
        have : m = 0 ∨ m = 1 ∨ m = 2 ∨ m = 3 ∨ m = 4 ∨ m = 5 ∨ m = 6 ∨ m = 7 := by omega
        rcases this with rfl | rfl | rfl | rfl | rfl | rfl | rfl | rfl <;> rfl)]
      show _=Value.int .i64 (updR F.m.on v on v m);rw[jBG]
    · rw[hout _ (by omega)];show _=Value.int .i64 (updR F.m.on u on v m);rw[jAW _ _ e];exact h.on v hv m hm
  · by_cases e:v=u
    · subst e;rw[hin 16 _ rfl];show _=Value.string (updB F.due v du v);unfold updB;rw[if_pos rfl]
    · rw[hout _ (by omega)];show _=Value.string (updB F.due u du v);unfold updB;rw[if_neg e];exact h.due v hv
  · by_cases e:v=u
    · subst e;rw[hin 17 _ rfl];show _=Value.int .i64 (updI F.m.rev v rv v);unfold updI;rw[if_pos rfl]
    · rw[hout _ (by omega)];show _=Value.int .i64 (updI F.m.rev u rv v);unfold updI;rw[if_neg e];exact h.rev v hv
  · by_cases e:v=u
    · subst e
      rw [show 43 + v * 22 + 18 + r = 43 + v * 22 + (18 + r) by omega, hin (18 + r) (.int .i64 (us r)) (by
        have : r = 0 ∨ r = 1 ∨ r = 2 ∨ r = 3 := by omega
        rcases this with rfl | rfl | rfl | rfl <;> rfl)]
      show _=Value.int .i64 (updR F.used v us v r);rw[jBG]
    · rw[hout _ (by omega)];show _=Value.int .i64 (updR F.used u us v r);rw[jAW _ _ e];exact h.used v hv r hr
  · rw[hout _ (by omega)];exact h.ck
  · rw[hout _ (by omega)];exact h.idle r hr
theorem Enc.putMach {M:Nat→Value}{F:Flt}(h:Enc M F){q:Nat}(hq:q<8)(t:Bool)(d:Nat→Int):Enc (putL M (3+q*5) (mvals t d)) (putM F q t d):=by
  (have hin:∀ j x,(mvals t d)[j]? = some x→putL M (3+q*5) (mvals t d) (3+q*5+j)=x:=fun j x hx=>jIa _ _ _ _ _ hx);(have hout:∀ j,(j<3+q*5∨3+q*5+5≤j)→putL M (3+q*5) (mvals t d) j=M j:=fun j hj=>jE8 _ _ _ _ hj);refine ⟨?_,?_,?_,fun i hi=>?_,fun i hi r hr=>?_,fun v hv=>?_,fun v hv r hr=>?_,fun v hv=>?_,fun v hv=>?_,fun v hv=>?_,fun v hv m hm=>?_,fun v hv=>?_,fun v hv=>?_,fun v hv r hr=>?_,?_,fun r hr=>?_⟩
  · rw[hout _ (by omega)];exact h.k
  · rw[hout _ (by omega)];exact h.mg
  · rw[hout _ (by omega)];exact h.ug
  · by_cases e:i=q
    · subst e;have e9:=hin 0 _ rfl;rw[Nat.add_zero] at e9;rw[e9];show _=Value.bool (updT F.mt i t i);rw[jBX]
    · rw[hout _ (by omega)];show _=Value.bool (updT F.mt q t i);rw[jAX _ _ e];exact h.mt i hi
  · by_cases e:i=q
    · subst e
      rw [show 3 + i * 5 + 1 + r = 3 + i * 5 + (1 + r) by omega, hin (1 + r) (.int .i64 (d r)) (by
        have : r = 0 ∨ r = 1 ∨ r = 2 ∨ r = 3 := by omega
        rcases this with rfl | rfl | rfl | rfl <;> rfl)]
      show _=Value.int .i64 (updR F.ms i d i r);rw[jBG]
    · rw[hout _ (by omega)];show _=Value.int .i64 (updR F.ms q d i r);rw[jAW _ _ e];exact h.ms i hi r hr
  · rw[hout _ (by omega)];exact h.ut v hv
  · rw[hout _ (by omega)];exact h.ud v hv r hr
  · rw[hout _ (by omega)];exact h.uw v hv
  · rw[hout _ (by omega)];exact h.uc v hv
  · rw[hout _ (by omega)];exact h.wait v hv
  · rw[hout _ (by omega)];exact h.on v hv m hm
  · rw[hout _ (by omega)];exact h.due v hv
  · rw[hout _ (by omega)];exact h.rev v hv
  · rw[hout _ (by omega)];exact h.used v hv r hr
  · rw[hout _ (by omega)];exact h.ck
  · rw[hout _ (by omega)];exact h.idle r hr
theorem Enc.setMg {M:Nat→Value}{F:Flt}(h:Enc M F)(x:Nat):Enc (updV M 1 (.int .i64 x)) { F with mg:=x }:=by
 refine ⟨?_,?_,?_,fun i hi=>?_,fun i hi r hr=>?_,fun v hv=>?_,fun v hv r hr=>?_,fun v hv=>?_,fun v hv=>?_,fun v hv=>?_,fun v hv m hm=>?_,fun v hv=>?_,fun v hv=>?_,fun v hv r hr=>?_,?_,fun r hr=>?_⟩
 ·rw[jAA _ _ (by omega)];exact h.k
 ·rw[jA4]
 ·rw[jAA _ _ (by omega)];exact h.ug
 ·rw[jAA _ _ (by omega)];exact h.mt i hi
 ·rw[jAA _ _ (by omega)];exact h.ms i hi r hr
 ·rw[jAA _ _ (by omega)];exact h.ut v hv
 ·rw[jAA _ _ (by omega)];exact h.ud v hv r hr
 ·rw[jAA _ _ (by omega)];exact h.uw v hv
 ·rw[jAA _ _ (by omega)];exact h.uc v hv
 ·rw[jAA _ _ (by omega)];exact h.wait v hv
 ·rw[jAA _ _ (by omega)];exact h.on v hv m hm
 ·rw[jAA _ _ (by omega)];exact h.due v hv
 ·rw[jAA _ _ (by omega)];exact h.rev v hv
 ·rw[jAA _ _ (by omega)];exact h.used v hv r hr
 ·rw[jAA _ _ (by omega)];exact h.ck
 ·rw[jAA _ _ (by omega)];exact h.idle r hr
theorem FL.setMg {w:World}{b:Nat}{F:Flt}(h:FL w b F)(x:Nat):FL (w.setCell ⟨b,1,none⟩ (.int .i64 x)) b { F with mg:=x }:=by
 obtain ⟨M,h1,h2⟩:=h;exact ⟨_,h1.set _ _,h2.setMg x⟩
theorem FL.cMg {w:World}{b:Nat}{F:Flt}(h:FL w b F):w.cell? ⟨b,1,none⟩=some (.int .i64 F.mg)∧w.frozen? ⟨b,1,none⟩=false:=by
 obtain ⟨M,h1,h2⟩:=h;rw[h1.cell (by omega),h2.mg];exact ⟨rfl,h1.frozen _⟩
theorem Enc.setUg {M:Nat→Value}{F:Flt}(h:Enc M F)(x:Nat):Enc (updV M 2 (.int .i64 x)) { F with ug:=x }:=by
 refine ⟨?_,?_,?_,fun i hi=>?_,fun i hi r hr=>?_,fun v hv=>?_,fun v hv r hr=>?_,fun v hv=>?_,fun v hv=>?_,fun v hv=>?_,fun v hv m hm=>?_,fun v hv=>?_,fun v hv=>?_,fun v hv r hr=>?_,?_,fun r hr=>?_⟩
 ·rw[jAA _ _ (by omega)];exact h.k
 ·rw[jAA _ _ (by omega)];exact h.mg
 ·rw[jA4]
 ·rw[jAA _ _ (by omega)];exact h.mt i hi
 ·rw[jAA _ _ (by omega)];exact h.ms i hi r hr
 ·rw[jAA _ _ (by omega)];exact h.ut v hv
 ·rw[jAA _ _ (by omega)];exact h.ud v hv r hr
 ·rw[jAA _ _ (by omega)];exact h.uw v hv
 ·rw[jAA _ _ (by omega)];exact h.uc v hv
 ·rw[jAA _ _ (by omega)];exact h.wait v hv
 ·rw[jAA _ _ (by omega)];exact h.on v hv m hm
 ·rw[jAA _ _ (by omega)];exact h.due v hv
 ·rw[jAA _ _ (by omega)];exact h.rev v hv
 ·rw[jAA _ _ (by omega)];exact h.used v hv r hr
 ·rw[jAA _ _ (by omega)];exact h.ck
 ·rw[jAA _ _ (by omega)];exact h.idle r hr
theorem FL.setUg {w:World}{b:Nat}{F:Flt}(h:FL w b F)(x:Nat):FL (w.setCell ⟨b,2,none⟩ (.int .i64 x)) b { F with ug:=x }:=by
 obtain ⟨M,h1,h2⟩:=h;exact ⟨_,h1.set _ _,h2.setUg x⟩
theorem FL.cUg {w:World}{b:Nat}{F:Flt}(h:FL w b F):w.cell? ⟨b,2,none⟩=some (.int .i64 F.ug)∧w.frozen? ⟨b,2,none⟩=false:=by
 obtain ⟨M,h1,h2⟩:=h;rw[h1.cell (by omega),h2.ug];exact ⟨rfl,h1.frozen _⟩
theorem FL.cK {w:World}{b:Nat}{F:Flt}(h:FL w b F):w.cell? ⟨b,0,none⟩=some (.int .i64 F.k):=by
 obtain ⟨M,h1,h2⟩:=h;rw[h1.cell (by omega),h2.k]
theorem FL.putUser {w:World}{b:Nat}{F:Flt}(h:FL w b F){u:Nat}(hu:u<6)(t:Bool)(d:Nat→Int)(wt cp wa:Int)(on:Nat→Int)(du:ByteArray)(rv:Int)(us:Nat→Int):FL (w.setCells b (43+u*22) (uvals t d wt cp wa on du rv us)) b (putU F u t d wt cp wa on du rv us):=by
 obtain ⟨M,h1,h2⟩:=h;exact ⟨_,h1.setCells (w:=w) _ _,h2.putUser hu t d wt cp wa on du rv us⟩
theorem FL.putMach {w:World}{b:Nat}{F:Flt}(h:FL w b F){q:Nat}(hq:q<8)(t:Bool)(d:Nat→Int):FL (w.setCells b (3+q*5) (mvals t d)) b (putM F q t d):=by
 obtain ⟨M,h1,h2⟩:=h;exact ⟨_,h1.setCells (w:=w) _ _,h2.putMach hq t d⟩
theorem FL.there {w:World}{b:Nat}{F:Flt}(h:FL w b F){o n:Nat}(hn:o+n≤180):w.there b o n:=by
 obtain ⟨M,h1,h2⟩:=h;exact h1.there hn
end Go.Proofs.YtigokanoflkinabGreatDoor
