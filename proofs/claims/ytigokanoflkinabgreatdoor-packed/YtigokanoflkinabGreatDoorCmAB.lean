/- CmA, CmB, joined. -/
import Derived.Test.YtigokanoflkinabGreatDoorFlWY
set_option maxHeartbeats 2000000
set_option maxRecDepth 20000
namespace Go.Proofs.YtigokanoflkinabGreatDoor
set_option linter.unusedSimpArgs false
set_option linter.unusedVariables false
open Go.RowKit Por
def updT (f:Nat→Bool)(i:Nat)(x:Bool):Nat→Bool:=fun j=>if j=i then x else f j
def updR (f:Nat→Nat→Int)(i:Nat)(g:Nat→Int):Nat→Nat→Int:=fun j=>if j=i then g else f j
theorem jBX (f:Nat→Bool)(i:Nat)(x:Bool):updT f i x i=x:=if_pos rfl
theorem jAX (f:Nat→Bool){i j:Nat}(x:Bool)(h:j≠i):updT f i x j=f j:=if_neg h
theorem jBG (f:Nat→Nat→Int)(i:Nat)(g:Nat→Int):updR f i g i=g:=if_pos rfl
theorem jAW (f:Nat→Nat→Int){i j:Nat}(g:Nat→Int)(h:j≠i):updR f i g j=f j:=if_neg h
def amtF (xs:List Int)(r:Nat):Int:=lm xs r
theorem jIi {xs:List Int}{r:Nat}(h:xs.length≤r):lm xs r=0:=by unfold lm;rw[List.getD_eq_getElem?_getD,List.getElem?_eq_none h];rfl
def subF (F:Flt)(u:Nat)(n:Int):Flt:={ F with m:={ F.m with wait:=updI F.m.wait u (F.m.wait u+n) } }
def finF (F:Flt)(u m:Nat):Flt:={ F with m:={ F.m with on:=upd2 F.m.on u m (F.m.on u m - 1) } }
def chgF (F:Flt)(u:Nat)(wt cp:Int):Flt:={ F with uw:=updI F.uw u wt,uc:=updI F.uc u cp }
def addMF (F:Flt)(xs:List Int):Flt:={ F with mt:=updT F.mt F.mg true,ms:=updR F.ms F.mg (amtF xs),mg:=F.mg+1 }
def addUF (F:Flt)(U:Usr):Flt:={ F with ut:=updT F.ut F.ug true,ud:=updR F.ud F.ug (amtF U.dem),uw:=updI F.uw F.ug U.wt,uc:=updI F.uc F.ug U.cap,m:=⟨updI F.m.wait F.ug 0,updR F.m.on F.ug (fun _=>0),updI F.m.rev F.ug 0⟩,due:=updB F.due F.ug ⟨#[]⟩,used:=updR F.used F.ug (fun _=>0),ug:=F.ug+1 }
def dropUF (F:Flt)(u:Nat):Flt:={ F with ut:=updT F.ut u false,ud:=updR F.ud u (fun _=>0),uw:=updI F.uw u 0,uc:=updI F.uc u 0,m:=⟨updI F.m.wait u 0,updR F.m.on u (fun _=>0),F.m.rev⟩,due:=updB F.due u ⟨#[]⟩ }
def offM (s:FM)(m k:Nat):FM:=⟨fun u=>if u<k then s.wait u+s.on u m else s.wait u,fun u l=>if u<k∧l=m then 0 else s.on u l,s.rev⟩
def dropMF (F:Flt)(m:Nat):Flt:={ F with mt:=updT F.mt m false,ms:=updR F.ms m (fun _=>0),m:=offM F.m m 6 }
def tickF (F:Flt)(n:Int):Flt:={ F with ck:=F.ck+n,used:=fun u r=>F.used u r+F.ud u r*runs F.m u*n,idle:=fun r=>F.idle r+(poolF F 8 r - Por.sumI (fun u=>F.ud u r*runs F.m u) 6)*n }
theorem FWf.sub {R:Int}{F:Flt}(h:FWf R F){u:Nat}(hu:u<6)(ht:F.ut u=true){n:Int}(h0:0≤F.m.wait u+n)(h1:F.m.wait u+n+runs F.m u≤40):FWf R (subF F u n):=by
  (have hr:∀ v,runs (subF F u n).m v=runs F.m v:=fun v=>rfl);have hw:∀ v,(subF F u n).m.wait v=if v=u then F.m.wait u+n else F.m.wait v:=fun v=>rfl
  exact { h with
    wait := fun v hv => by
      rw [hw]; split
      · exact h0
      · exact h.wait v hv
    none := fun v hv hn => by
      rw [hw, hr, if_neg (fun e => by subst e; rw [show (subF F v n).ut v = F.ut v from rfl, ht] at hn; cases hn)]; exact h.none v hv hn
    tot := fun v hv => by
      rw [hw, hr]; split
      · rename_i e; subst e; exact h1
      · exact h.tot v hv }
theorem FWf.fin {R:Int}{F:Flt}(h:FWf R F){u m:Nat}(hu:u<6)(hm:m<8)(h0:1≤F.m.on u m):FWf R (finF F u m):=by
  have ho:∀ v l,(finF F u m).m.on v l=if v=u∧l=m then F.m.on u m - 1 else F.m.on v l:=fun v l=>rfl
  have hr:∀ v,runs (finF F u m).m v=if v=u then runs F.m u - 1 else runs F.m v:=fun v=>by
    by_cases e:v=u
    · subst e;rw[if_pos rfl];have:=jBT (f:=(finF F v m).m.on v) (g:=F.m.on v) hm (fun i _ hne=>by rw[ho,if_neg (fun h5=>hne h5.2)]);show Por.sumI ((finF F v m).m.on v) 8=_;rw[this,ho,if_pos ⟨rfl,rfl⟩];show Por.sumI (F.m.on v) 8 + _=Por.sumI (F.m.on v) 8 - 1;omega
    · rw[if_neg e];exact jAs (fun i _=>by rw[ho,if_neg (fun h5=>e h5.1)])
  exact { h with
    on := fun v hv l hl => by
      rw [ho]; split
      · omega
      · exact h.on v hv l hl
    none := fun v hv hn => by
      have h1 := h.none v hv hn
      have h2 := h.wait v hv
      have h3 := h.runs0 hv
      have e : v ≠ u := fun e => by
        subst e
        have := jCB (f := F.m.on v) (n := 8) (fun j hj => h.on v hv j hj) hm
        unfold runs at h1 h3; omega
      rw [hr, if_neg e]; exact h1
    gone := fun l hl hg v hv => by
      rw [ho, if_neg (fun h5 => by have := h.gone l hl hg v hv; rw [h5.1, h5.2] at this; omega)]; exact h.gone l hl hg v hv
    room := fun l hl r hr' => by
      refine Int.le_trans (jEZ (fun v hv => ?_)) (h.room l hl r hr')
      refine Int.mul_le_mul_of_nonneg_left ?_ (h.ud v hv r hr').1
      rw [ho]; split
      · rename_i e; rw [e.1, e.2]; omega
      · exact Int.le_refl _
    tot := fun v hv => by
      rw [hr]
      have := h.tot v hv
      split
      · rename_i e; subst e; show F.m.wait v + _ ≤ _; omega
      · exact this }
theorem FWf.chg {R:Int} {F:Flt} (h:FWf R F) {u:Nat} (hu:u<6) (ht:F.ut u=true) {wt cp:Int} (hw:1≤wt∧wt≤100) (hc:0≤cp∧cp≤1000):FWf R (chgF F u wt cp):=
  { h with
    uw:=fun v hv=>by
      show 0≤updI F.uw u wt v∧updI F.uw u wt v≤100
      unfold updI;split
      · omega
      · exact h.uw v hv
    uw1:=fun v hv hn=>by
      show 1≤updI F.uw u wt v
      unfold updI;split
      · omega
      · exact h.uw1 v hv hn
    uc:=fun v hv=>by
      show 0≤updI F.uc u cp v∧updI F.uc u cp v≤1000
      unfold updI;split
      · omega
      · exact h.uc v hv }
theorem FWf.addM {R:Int}{F:Flt}(h:FWf R F)(hg:F.mg<8){xs:List Int}(hl:xs.length=F.k)(hx:∀ r,r<F.k→0≤lm xs r∧lm xs r≤1000):FWf R (addMF F xs):=by
  have hn:F.mt F.mg=false:=by
    cases e:F.mt F.mg with
    | false=>rfl
    | true=>have:=h.mt F.mg hg e;omega
  (have hms:∀ i,(addMF F xs).ms i=if i=F.mg then amtF xs else F.ms i:=fun i=>rfl);have hmt:∀ i,(addMF F xs).mt i=if i=F.mg then true else F.mt i:=fun i=>rfl
  have ha:∀ r,0≤amtF xs r∧amtF xs r≤1000:=fun r=>by
    unfold amtF;by_cases hr:r<F.k
    · exact hx r hr
    · rw[jIi (by omega)];omega
  exact { h with
    mg := by show F.mg + 1 ≤ 8; omega
    mt := fun i hi ht => by
      show i < F.mg + 1
      rw [hmt] at ht; split at ht
      · omega
      · have := h.mt i hi ht; omega
    ms := fun i hi r hr => by
      rw [hms]; split
      · exact ha r
      · exact h.ms i hi r hr
    msz := fun i hi ht r hr => by
      rw [hmt] at ht; split at ht
      · cases ht
      · rename_i e; rw [hms, if_neg e]; exact h.msz i hi ht r hr
    msk := fun i hi r hr hk => by
      have hk : F.k ≤ r := hk
      rw [hms]; split
      · exact jIi (by omega)
      · exact h.msk i hi r hr hk
    gone := fun m hm ht u hu => by
      rw [hmt] at ht; split at ht
      · cases ht
      · exact h.gone m hm ht u hu
    room := fun m hm r hr => by
      rw [hms]; split
      · rename_i e
        refine Int.le_trans (Int.le_of_eq (jAq (fun u hu => ?_))) (ha r).1
        show F.ud u r * F.m.on u m = 0
        rw [h.gone m hm (by rw [e]; exact hn) u hu, Int.mul_zero]
      · exact h.room m hm r hr }
theorem FWf.addU {R:Int}{F:Flt}(h:FWf R F)(hR:0≤R)(hg:F.ug<6){U:Usr}(hU:usrB F.k U=true):FWf R (addUF F U):=by
  unfold usrB at hU;simp only[Bool.and_eq_true,decide_eq_true_eq] at hU;obtain ⟨⟨⟨hl,hw⟩,ha⟩,hwn⟩:=hU
  have hn:F.ut F.ug=false:=by
    cases e:F.ut F.ug with
    | false=>rfl
    | true=>have:=h.ut F.ug hg e;omega
  (have hud:∀ v,(addUF F U).ud v=if v=F.ug then amtF U.dem else F.ud v:=fun v=>rfl);(have hut:∀ v,(addUF F U).ut v=if v=F.ug then true else F.ut v:=fun v=>rfl);(have hwt:∀ v,(addUF F U).m.wait v=if v=F.ug then 0 else F.m.wait v:=fun v=>rfl);(have hon:∀ v,(addUF F U).m.on v=if v=F.ug then (fun _=>0) else F.m.on v:=fun v=>rfl);(have hrv:∀ v,(addUF F U).m.rev v=if v=F.ug then 0 else F.m.rev v:=fun v=>rfl);have hus:∀ v,(addUF F U).used v=if v=F.ug then (fun _=>0) else F.used v:=fun v=>rfl
  have hru:∀ v,runs (addUF F U).m v=if v=F.ug then 0 else runs F.m v:=fun v=>by
    unfold runs;rw[hon];by_cases e:v=F.ug
    · rw[if_pos e,if_pos e];exact jAq (fun _ _=>rfl)
    · rw[if_neg e,if_neg e]
  have hz:=h.none F.ug hg hn;(have hz1:∀ m,m<8→F.m.on F.ug m=0:=fun m hm=>by have h1:=h.wait F.ug hg;have h2:=h.on F.ug hg m hm;have h3:=jCB (f:=F.m.on F.ug) (n:=8) (fun j hj=>h.on F.ug hg j hj) hm;unfold runs at hz;omega);have hd:∀ r,0≤amtF U.dem r∧amtF U.dem r≤10000:=fun r=>by unfold amtF;have:=jFr ha r;unfold amtB at this;exact of_decide_eq_true this
  exact { h with
    ug := by show F.ug + 1 ≤ 6; omega
    ut := fun v hv ht => by
      show v < F.ug + 1
      rw [hut] at ht; split at ht
      · omega
      · have := h.ut v hv ht; omega
    ud := fun v hv r hr => by
      rw [hud]; split
      · exact hd r
      · exact h.ud v hv r hr
    udk := fun v hv r hr hk => by
      have hk : F.k ≤ r := hk
      rw [hud]; split
      · exact jIi (by omega)
      · exact h.udk v hv r hr hk
    want := fun v hv ht => by
      rw [hud]; rw [hut] at ht
      by_cases e : v = F.ug
      · rw [if_pos e]
        unfold wantsB at hwn
        rw [List.any_eq_true] at hwn
        obtain ⟨x, hx, hx2⟩ := hwn
        obtain ⟨i, hi, rfl⟩ := List.getElem_of_mem hx
        refine ⟨i, by show i < F.k; omega, ?_⟩
        unfold amtF lm
        rw [List.getD_eq_getElem?_getD, List.getElem?_eq_getElem hi]
        exact of_decide_eq_true hx2
      · rw [if_neg e]; rw [if_neg e] at ht; exact h.want v hv ht
    uw := fun v hv => by
      show 0 ≤ updI F.uw F.ug U.wt v ∧ updI F.uw F.ug U.wt v ≤ 100
      unfold updI; split
      · omega
      · exact h.uw v hv
    uw1 := fun v hv hn => by
      show 1 ≤ updI F.uw F.ug U.wt v
      rw [hut] at hn
      unfold updI; split
      · omega
      · rename_i e; rw [if_neg e] at hn; exact h.uw1 v hv hn
    uc := fun v hv => by
      show 0 ≤ updI F.uc F.ug U.cap v ∧ updI F.uc F.ug U.cap v ≤ 1000
      unfold updI; split
      · omega
      · exact h.uc v hv
    on := fun v hv m hm => by
      rw [hon]; split
      · exact Int.le_refl _
      · exact h.on v hv m hm
    wait := fun v hv => by
      rw [hwt]; split
      · exact Int.le_refl _
      · exact h.wait v hv
    none := fun v hv ht => by
      rw [hut] at ht
      rw [hwt, hru]
      by_cases e : v = F.ug
      · rw [if_pos e] at ht; cases ht
      · rw [if_neg e] at ht; rw [if_neg e, if_neg e]; exact h.none v hv ht
    gone := fun m hm ht v hv => by
      rw [hon]; split
      · rfl
      · exact h.gone m hm ht v hv
    room := fun m hm r hr => by
      refine Int.le_trans (Int.le_of_eq (jAs (fun v hv => ?_))) (h.room m hm r hr)
      show (addUF F U).ud v r * (addUF F U).m.on v m = F.ud v r * F.m.on v m
      rw [hud, hon]
      by_cases e : v = F.ug
      · rw [if_pos e, if_pos e, e, hz1 m hm]; simp
      · rw [if_neg e, if_neg e]
    tot := fun v hv => by
      rw [hwt, hru]
      by_cases e : v = F.ug
      · rw [if_pos e, if_pos e]; omega
      · rw [if_neg e, if_neg e]; exact h.tot v hv
    rev := fun v hv => by
      rw [hrv]; split
      · omega
      · exact h.rev v hv
    used := fun v hv r hr => by
      rw [hus]
      have hc : 0 ≤ F.ck := h.ck.1
      split
      · show (0 : Int) ≤ 0 ∧ (0 : Int) ≤ 400000 * F.ck
        omega
      · exact h.used v hv r hr }
theorem FWf.dropU {R:Int}{F:Flt}(h:FWf R F){u:Nat}(hu:u<6):FWf R (dropUF F u):=by
  (have hud:∀ v,(dropUF F u).ud v=if v=u then (fun _=>0) else F.ud v:=fun v=>rfl);(have hut:∀ v,(dropUF F u).ut v=if v=u then false else F.ut v:=fun v=>rfl);(have hwt:∀ v,(dropUF F u).m.wait v=if v=u then 0 else F.m.wait v:=fun v=>rfl);have hon:∀ v,(dropUF F u).m.on v=if v=u then (fun _=>0) else F.m.on v:=fun v=>rfl
  have hru:∀ v,runs (dropUF F u).m v=if v=u then 0 else runs F.m v:=fun v=>by
    unfold runs;rw[hon];by_cases e:v=u
    · rw[if_pos e,if_pos e];exact jAq (fun _ _=>rfl)
    · rw[if_neg e,if_neg e]
  exact { h with
    ut := fun v hv ht => by
      rw [hut] at ht; split at ht
      · cases ht
      · exact h.ut v hv ht
    ud := fun v hv r hr => by
      rw [hud]; split
      · show (0 : Int) ≤ 0 ∧ (0 : Int) ≤ 10000; omega
      · exact h.ud v hv r hr
    udk := fun v hv r hr hk => by
      rw [hud]; split
      · rfl
      · exact h.udk v hv r hr hk
    want := fun v hv ht => by
      rw [hud]; rw [hut] at ht
      by_cases e : v = u
      · rw [if_pos e] at ht; cases ht
      · rw [if_neg e]; rw [if_neg e] at ht; exact h.want v hv ht
    uw := fun v hv => by
      show 0 ≤ updI F.uw u 0 v ∧ updI F.uw u 0 v ≤ 100
      unfold updI; split
      · omega
      · exact h.uw v hv
    uw1 := fun v hv hn => by
      show 1 ≤ updI F.uw u 0 v
      rw [hut] at hn
      unfold updI; split
      · rename_i e; rw [if_pos e] at hn; cases hn
      · rename_i e; rw [if_neg e] at hn; exact h.uw1 v hv hn
    uc := fun v hv => by
      show 0 ≤ updI F.uc u 0 v ∧ updI F.uc u 0 v ≤ 1000
      unfold updI; split
      · omega
      · exact h.uc v hv
    on := fun v hv m hm => by
      rw [hon]; split
      · exact Int.le_refl _
      · exact h.on v hv m hm
    wait := fun v hv => by
      rw [hwt]; split
      · exact Int.le_refl _
      · exact h.wait v hv
    none := fun v hv ht => by
      rw [hut] at ht
      rw [hwt, hru]
      by_cases e : v = u
      · rw [if_pos e, if_pos e]; rfl
      · rw [if_neg e] at ht; rw [if_neg e, if_neg e]; exact h.none v hv ht
    gone := fun m hm ht v hv => by
      rw [hon]; split
      · rfl
      · exact h.gone m hm ht v hv
    room := fun m hm r hr => by
      refine Int.le_trans (jEZ (fun v hv => ?_)) (h.room m hm r hr)
      show (dropUF F u).ud v r * (dropUF F u).m.on v m ≤ F.ud v r * F.m.on v m
      rw [hud, hon]
      by_cases e : v = u
      · rw [if_pos e, if_pos e]
        show (0 : Int) * 0 ≤ _
        rw [Int.mul_zero]; exact Int.mul_nonneg (h.ud v hv r hr).1 (h.on v hv m hm)
      · rw [if_neg e, if_neg e]; exact Int.le_refl _
    tot := fun v hv => by
      rw [hwt, hru]
      by_cases e : v = u
      · rw [if_pos e, if_pos e]; omega
      · rw [if_neg e, if_neg e]; exact h.tot v hv }
theorem jEG {s:FM}{m:Nat}(hm:m<8){u:Nat}(hu:u<6):runs (offM s m 6) u=runs s u - s.on u m:=by
 have:=jBT (f:=(offM s m 6).on u) (g:=s.on u) hm (fun i _ hne=>by show (if u<6∧i=m then 0 else s.on u i)=_;rw[if_neg (fun h5=>hne h5.2)]);show Por.sumI ((offM s m 6).on u) 8=Por.sumI (s.on u) 8 - s.on u m;rw[this];show Por.sumI (s.on u) 8+((if u<6∧m=m then 0 else s.on u m) - s.on u m)=_;rw[if_pos ⟨hu,rfl⟩];omega
theorem FWf.dropM {R:Int}{F:Flt}(h:FWf R F){m:Nat}(hm:m<8):FWf R (dropMF F m):=by
  (have hms:∀ i,(dropMF F m).ms i=if i=m then (fun _=>0) else F.ms i:=fun i=>rfl);(have hmt:∀ i,(dropMF F m).mt i=if i=m then false else F.mt i:=fun i=>rfl);have hwt:∀ v,v<6→(dropMF F m).m.wait v=F.m.wait v+F.m.on v m:=fun v hv=>if_pos hv
  have hon:∀ v,v<6→∀ l,(dropMF F m).m.on v l=if l=m then 0 else F.m.on v l:=fun v hv l=>by
    show (if v<6∧l=m then 0 else F.m.on v l)=_;by_cases e:l=m
    · rw[if_pos ⟨hv,e⟩,if_pos e]
    · rw[if_neg (fun h5=>e h5.2),if_neg e]
  have hru:∀ v,v<6→runs (dropMF F m).m v=runs F.m v - F.m.on v m:=fun v hv=>jEG hm hv
  exact { h with
    mt := fun i hi ht => by
      rw [hmt] at ht; split at ht
      · cases ht
      · exact h.mt i hi ht
    ms := fun i hi r hr => by
      rw [hms]; split
      · show (0 : Int) ≤ 0 ∧ (0 : Int) ≤ 1000; omega
      · exact h.ms i hi r hr
    msz := fun i hi ht r hr => by
      rw [hms]; rw [hmt] at ht
      by_cases e : i = m
      · rw [if_pos e]
      · rw [if_neg e] at ht; rw [if_neg e]; exact h.msz i hi ht r hr
    msk := fun i hi r hr hk => by
      rw [hms]; split
      · rfl
      · exact h.msk i hi r hr hk
    on := fun v hv l hl => by
      rw [hon v hv]; split
      · exact Int.le_refl _
      · exact h.on v hv l hl
    wait := fun v hv => by
      rw [hwt v hv]; have := h.wait v hv; have := h.on v hv m hm; omega
    none := fun v hv ht => by
      rw [hwt v hv, hru v hv]; have := h.none v hv ht; omega
    gone := fun l hl ht v hv => by
      rw [hon v hv]; rw [hmt] at ht
      by_cases e : l = m
      · rw [if_pos e]
      · rw [if_neg e] at ht; rw [if_neg e]; exact h.gone l hl ht v hv
    room := fun l hl r hr => by
      rw [hms]
      by_cases e : l = m
      · rw [if_pos e]
        refine Int.le_of_eq (jAq (fun v hv => ?_))
        show F.ud v r * (dropMF F m).m.on v l = 0
        rw [hon v hv, if_pos e, Int.mul_zero]
      · rw [if_neg e]
        refine Int.le_trans (Int.le_of_eq (jAs (fun v hv => ?_))) (h.room l hl r hr)
        show F.ud v r * (dropMF F m).m.on v l = F.ud v r * F.m.on v l
        rw [hon v hv, if_neg e]
    tot := fun v hv => by
      rw [hwt v hv, hru v hv]; have := h.tot v hv; omega }
theorem FWf.spare {R:Int}{F:Flt}(h:FWf R F){r:Nat}(hr:r<4):0≤poolF F 8 r - Por.sumI (fun u=>F.ud u r*runs F.m u) 6:=by
 (have h1:Por.sumI (fun u=>F.ud u r*runs F.m u) 6=Por.sumI (fun m=>Por.sumI (fun u=>F.ud u r*F.m.on u m) 6) 8:=by have h2:Por.sumI (fun u=>F.ud u r*runs F.m u) 6=Por.sumI (fun u=>Por.sumI (fun m=>F.ud u r*F.m.on u m) 8) 6:=jAs (fun u _=>by show _=Por.sumI (fun m=>F.ud u r*F.m.on u m) 8;rw[jHF];rfl);rw[h2,jJZ]);have h3:=jEZ (f:=fun m=>Por.sumI (fun u=>F.ud u r*F.m.on u m) 6) (g:=fun m=>F.ms m r) (n:=8) (fun m hm=>h.room m hm r hr);rw[h1];change Por.sumI _ 8≤poolF F 8 r at h3;omega
theorem FWf.tick {R:Int} {F:Flt} (h:FWf R F) {n:Int} (h0:0≤n) (h1:F.ck+n≤1000000):FWf R (tickF F n):=
  { h with
    ck:=by have:=h.ck.1;show 0≤F.ck+n∧F.ck+n≤1000000;omega
    used:=fun u hu r hr=>by
      show 0≤F.used u r+F.ud u r*runs F.m u*n∧F.used u r+F.ud u r*runs F.m u*n≤400000*(F.ck+n)
      have h2:=h.used u hu r hr
      have h3:=jBe (h.ud u hu r hr) (show 0≤runs F.m u∧runs F.m u≤40 from ⟨h.runs0 hu,by have:=h.tot u hu;have:=h.wait u hu;omega⟩)
      have h4:=Int.mul_nonneg h3.1 h0
      have h5:=Int.mul_le_mul_of_nonneg_right h3.2 h0
      rw[Int.mul_add]
      omega
    idle:=fun r hr=>by
      show 0≤F.idle r+(poolF F 8 r - Por.sumI (fun u=>F.ud u r*runs F.m u) 6)*n∧F.idle r+(poolF F 8 r - Por.sumI (fun u=>F.ud u r*runs F.m u) 6)*n≤8000*(F.ck+n)
      have h2:=h.idle r hr
      have h3:=h.spare hr
      have h4:=h.stat.pool r hr
      have h5:0≤Por.sumI (fun u=>F.ud u r*runs F.m u) 6:=jAL (fun u hu=>Int.mul_nonneg (h.ud u hu r hr).1 (h.runs0 hu))
      have h6:=Int.mul_nonneg h3 h0
      have h7:(poolF F 8 r - Por.sumI (fun u=>F.ud u r*runs F.m u) 6)*n≤8000*n:=Int.mul_le_mul_of_nonneg_right (by omega) h0
      rw[Int.mul_add]
      omega }
def Ends (b:Nat)(R:Int)(F F1:Flt)(er:Int)(w w':World):Prop:=∃ G,FL w' b G∧FWf (R+9600) G∧Tab w'∧Only w.heap.size b w w'∧((er=0∧Settled F1 G)∨(er≠0∧G=F))
theorem Ends.refused {b:Nat} {R:Int} {F F1:Flt} {er:Int} {w w':World} (hf:FL w b F) (hr:FWf R F) (ht:Tab w) (hb:Below w.heap.size w w') (he:er≠0):Ends b R F F1 er w w':=
  ⟨F,hf.below hb,hr.mono (by omega),ht.below hb,Only.of_below b hb,.inr ⟨he,rfl⟩⟩
theorem Enc.setUw {M:Nat→Value}{F:Flt}(h:Enc M F){u:Nat}(hu:u<6)(x:Int):Enc (updV M (43+u*22+5) (.int .i64 x)) { F with uw:=updI F.uw u x }:=by
 refine ⟨?_,?_,?_,fun i hi=>?_,fun i hi r hr=>?_,fun v hv=>?_,fun v hv r hr=>?_,fun v hv=>?_,fun v hv=>?_,fun v hv=>?_,fun v hv m hm=>?_,fun v hv=>?_,fun v hv=>?_,fun v hv r hr=>?_,?_,fun r hr=>?_⟩
 ·rw[jAA _ _ (by omega)];exact h.k
 ·rw[jAA _ _ (by omega)];exact h.mg
 ·rw[jAA _ _ (by omega)];exact h.ug
 ·rw[jAA _ _ (by omega)];exact h.mt i hi
 ·rw[jAA _ _ (by omega)];exact h.ms i hi r hr
 ·rw[jAA _ _ (by omega)];exact h.ut v hv
 ·rw[jAA _ _ (by omega)];exact h.ud v hv r hr
 ·by_cases e:v=u
  ·subst e;rw[jA4];show _=Value.int .i64 (updI F.uw v x v);rw[jAS]
  ·rw[jAA _ _ (by omega)];show _=Value.int .i64 (updI F.uw u x v);rw[jAK _ _ e];exact h.uw v hv
 ·rw[jAA _ _ (by omega)];exact h.uc v hv
 ·rw[jAA _ _ (by omega)];exact h.wait v hv
 ·rw[jAA _ _ (by omega)];exact h.on v hv m hm
 ·rw[jAA _ _ (by omega)];exact h.due v hv
 ·rw[jAA _ _ (by omega)];exact h.rev v hv
 ·rw[jAA _ _ (by omega)];exact h.used v hv r hr
 ·rw[jAA _ _ (by omega)];exact h.ck
 ·rw[jAA _ _ (by omega)];exact h.idle r hr
theorem FL.setUw {w:World}{b:Nat}{F:Flt}(h:FL w b F){u:Nat}(hu:u<6)(x:Int):FL (w.setCell ⟨b,43+u*22+5,none⟩ (.int .i64 x)) b { F with uw:=updI F.uw u x }:=by
 obtain ⟨M,h1,h2⟩:=h;exact ⟨_,h1.set _ _,h2.setUw hu x⟩
theorem FL.cUw {w:World}{b:Nat}{F:Flt}(h:FL w b F){u:Nat}(hu:u<6):w.cell? ⟨b,43+u*22+5,none⟩=some (.int .i64 (F.uw u))∧w.frozen? ⟨b,43+u*22+5,none⟩=false:=by
 obtain ⟨M,h1,h2⟩:=h;rw[h1.cell (by omega),h2.uw u hu];exact ⟨rfl,h1.frozen _⟩
theorem Enc.setUc {M:Nat→Value}{F:Flt}(h:Enc M F){u:Nat}(hu:u<6)(x:Int):Enc (updV M (43+u*22+6) (.int .i64 x)) { F with uc:=updI F.uc u x }:=by
 refine ⟨?_,?_,?_,fun i hi=>?_,fun i hi r hr=>?_,fun v hv=>?_,fun v hv r hr=>?_,fun v hv=>?_,fun v hv=>?_,fun v hv=>?_,fun v hv m hm=>?_,fun v hv=>?_,fun v hv=>?_,fun v hv r hr=>?_,?_,fun r hr=>?_⟩
 ·rw[jAA _ _ (by omega)];exact h.k
 ·rw[jAA _ _ (by omega)];exact h.mg
 ·rw[jAA _ _ (by omega)];exact h.ug
 ·rw[jAA _ _ (by omega)];exact h.mt i hi
 ·rw[jAA _ _ (by omega)];exact h.ms i hi r hr
 ·rw[jAA _ _ (by omega)];exact h.ut v hv
 ·rw[jAA _ _ (by omega)];exact h.ud v hv r hr
 ·rw[jAA _ _ (by omega)];exact h.uw v hv
 ·by_cases e:v=u
  ·subst e;rw[jA4];show _=Value.int .i64 (updI F.uc v x v);rw[jAS]
  ·rw[jAA _ _ (by omega)];show _=Value.int .i64 (updI F.uc u x v);rw[jAK _ _ e];exact h.uc v hv
 ·rw[jAA _ _ (by omega)];exact h.wait v hv
 ·rw[jAA _ _ (by omega)];exact h.on v hv m hm
 ·rw[jAA _ _ (by omega)];exact h.due v hv
 ·rw[jAA _ _ (by omega)];exact h.rev v hv
 ·rw[jAA _ _ (by omega)];exact h.used v hv r hr
 ·rw[jAA _ _ (by omega)];exact h.ck
 ·rw[jAA _ _ (by omega)];exact h.idle r hr
theorem FL.setUc {w:World}{b:Nat}{F:Flt}(h:FL w b F){u:Nat}(hu:u<6)(x:Int):FL (w.setCell ⟨b,43+u*22+6,none⟩ (.int .i64 x)) b { F with uc:=updI F.uc u x }:=by
 obtain ⟨M,h1,h2⟩:=h;exact ⟨_,h1.set _ _,h2.setUc hu x⟩
theorem FL.cUc {w:World}{b:Nat}{F:Flt}(h:FL w b F){u:Nat}(hu:u<6):w.cell? ⟨b,43+u*22+6,none⟩=some (.int .i64 (F.uc u))∧w.frozen? ⟨b,43+u*22+6,none⟩=false:=by
 obtain ⟨M,h1,h2⟩:=h;rw[h1.cell (by omega),h2.uc u hu];exact ⟨rfl,h1.frozen _⟩
def subE (F:Flt)(x n:Int):Int:=if hasU F x then (if n<1∨40 - (F.m.wait x.toNat+runs F.m x.toNat)<n then 8 else 0) else 7
def canE (F:Flt)(x n:Int):Int:=if hasU F x then (if n<1∨F.m.wait x.toNat<n then 8 else 0) else 7
def finE (F:Flt)(x y:Int):Int:=if hasU F x && hasM F y then (if F.m.on x.toNat y.toNat<1 then 8 else 0) else 7
def chgE (F:Flt)(x wt cp:Int):Int:=if hasU F x then (if rngB 1 100 wt && rngB 0 1000 cp then 0 else 4) else 7
theorem jJq (b:Nat) (F:Flt) (u:Nat) (w:World) (hf:FL w b F) (hu:u<6) (hw:0≤F.m.wait u∧F.m.wait u≤1000000) (ho:∀ m,m<8→0≤F.m.on u m∧F.m.on u m≤1000000) :
    Calls Tryz.prog 71 #[.pointer (some ⟨b,43+u*22,none⟩)] w fun e w'=>e = .returned (.int .i64 (F.m.wait u+runs F.m u))∧Below w.heap.size w w':=
  jGL b (43+u*22) (F.m.wait u) (F.m.on u) w hf.lt (hf.cWait hu).1 (fun m hm=>(hf.cOn hu hm).1) hw ho
theorem Ends.of {b:Nat} {R:Int} {F F1 G:Flt} {er:Int} {w V w':World} (h0:Only w.heap.size b w V) (h1:FL w' b G) (h2:Settled F1 G) (h3:FWf (R+9600) G) (h4:Tab w') (h5:Only V.heap.size b V w') (he:er=0):Ends b R F F1 er w w':=
  ⟨G,h1,h3,h4,h0.trans (h5.mono h0.size),.inl ⟨he,h2⟩⟩
theorem Submit_any (b:Nat)(R:Int)(F:Flt)(x n:Int)(w:World)(hf:FL w b F)(hr:FWf R F)(hR:R≤999999999999990000)(ht:Tab w):Calls Tryz.prog 51 #[.pointer (some ⟨b,0,none⟩),.int .i64 x,.int .i64 n] w fun e w'=>e = .returned (.int .i64 (subE F x n))∧Ends b R F (subF F x.toNat n) (subE F x n) w w':=by
 have HF0:=hid hf;have HW:=hid hr;have HT:=hid ht;have HB0:=hid (Below.refl w.heap.size w);clear hf hr ht;go_enter Tryz.func51,Tryz.ntmps51;go_wp2_with fail;refine (jAv b F x _ HF0.out).mono ?_;rintro e1 w1 ⟨rfl,hqe1⟩;obtain rfl:=hqe1.symm
 cases hh:hasU F x with
 | false=>(have HE:Hid (subE F x n=7):=by unfold Hid subE;rw[hh];rfl);clear hh;go_wp2;go_ret;exact ⟨by rw[HE.out];rfl,by rw[HE.out];exact Ends.refused HF0.out HW.out HT.out HB0.out (by decide)⟩
 | true=>
  obtain ⟨u,rfl,hu,htu⟩:=jA6 hh;(have hui:(u:Int)<6:=by omega);have HTU:=hid htu;have HH:=hid hh;clear htu hh;(have hto:(u:Int).toNat=u:=by omega);have HTO:=hid hto;clear hto;have lb:=HF0.out.lt;by_cases h1:n<1
  ·(have HE:Hid (subE F u n=8):=by unfold Hid subE;rw[HH.out];simp only[if_true];rw[if_pos (.inl h1)]);have d1:decide (n<1)=true:=decide_eq_true h1;go_wp2;go_ret;exact ⟨by rw[HE.out];rfl,by rw[HE.out];exact Ends.refused HF0.out HW.out HT.out HB0.out (by decide)⟩
  ·have d1:decide (n<1)=false:=decide_eq_false h1;have HWT:=hid (HW.out.wait40 hu);have HRN:=hid (HW.out.runs0 hu);have HTT:=hid (HW.out.tot u hu);go_wp2_with fail;refine (jJq b F u _ HF0.out hu (by have:=HWT.out;omega) (fun m hm=>by have:=HW.out.on40 hu hm;omega)).mono ?_;rintro e2 w2 ⟨rfl,hb2⟩;have HB2:=hid hb2;clear hb2;obtain ⟨ts,hts⟩:∃ t,F.m.wait u+runs F.m u=t:=⟨_,rfl⟩;rw[hts];(have htr:0≤ts∧ts≤40:=by have h1:=HWT.out;have h2:=HRN.out;have h3:=HTT.out;omega);have HTS:=hid hts;clear hts;by_cases h2:40 - ts<n
   ·(have HE:Hid (subE F u n=8):=by unfold Hid subE;rw[HH.out];simp only[if_true];rw[HTO.out,HTS.out];rw[if_pos (.inr h2)]);go_wp2;go_ret;exact ⟨by rw[HE.out];rfl,by rw[HE.out];exact Ends.refused HF0.out HW.out HT.out HB2.out (by decide)⟩
   ·(have HE:Hid (subE F u n=0):=by unfold Hid subE;rw[HH.out];simp only[if_true];rw[HTO.out,HTS.out];rw[if_neg (by omega)]);(go_upto_region 5 with fail);have HFw:=hid (HF0.out.below HB2.out);have HTw:=hid (HT.out.below HB2.out);have HOw:=hid (Only.of_below b HB2.out);obtain ⟨wt,hwt⟩:∃ t,F.m.wait u=t:=⟨_,rfl⟩;obtain ⟨c0,z0⟩:=HFw.out.cWait hu;have hwr:=HWT.out;rw[hwt] at c0 hwr;have HWQ:=hid hwt;clear hwt;have lb2:=HFw.out.lt;go_region;clear c0 z0;(have HF3:Hid (FL (w2.setCell ⟨b,43+u*22+7,none⟩ (.int .i64 (wt+n))) b (subF F u n)):=by have h9:=HFw.out.setWait hu (wt+n);rw[← HWQ.out] at h9 ⊢;exact h9);have HO3:=hid (HOw.out.setCell _ (43+u*22+7) (.int .i64 (wt+n)));have HT3:Hid (Tab (w2.setCell ⟨b,43+u*22+7,none⟩ (.int .i64 (wt+n)))):=HTw.out.only HFw.out ((Only.refl w2.heap.size b w2).setCell _ (43+u*22+7) (.int .i64 (wt+n))) (Nat.le_refl _);(go_upto_region 6 with fail);obtain ⟨V3,hV⟩:∃ V,V=(w2.setCell ⟨b,43+u*22+7,none⟩ (.int .i64 (wt+n))):=⟨_,rfl⟩;rw[← hV] at HF3 HO3 HT3 ⊢;clear hV;have HF3d:Hid (FL V3.drew b _):=HF3.out;have HO3d:Hid (Only w.heap.size b w V3.drew):=⟨HO3.out.os,HO3.out.tape,HO3.out.output,HO3.out.size,HO3.out.block⟩;have HT3d:Hid (Tab V3.drew):=HT3.out.drew;go_wp2_with fail;refine (jBY b R (subF F u n) _ HF3d.out (HW.out.sub hu HTU.out (by have h3:=HWQ.out;have h4:=HWT.out;omega) (by have h3:=HTS.out;have h4:=HWQ.out;have h5:=HWT.out;have h6:=HTT.out;omega)) hR HT3d.out).mono ?_;rintro e9 w9 ⟨rfl,G,hf9,hs9,hw9,ht9,ho9⟩;have HE9:=hid (Ends.of (F:=F) (er:=0) HO3d.out hf9 hs9 hw9 ht9 ho9 rfl);clear hf9 hs9 hw9 ht9 ho9;go_wp2;go_ret;exact ⟨by rw[HE.out];rfl,by rw[HE.out,HTO.out];exact HE9.out⟩
theorem Cancel_any (b:Nat)(R:Int)(F:Flt)(x n:Int)(w:World)(hf:FL w b F)(hr:FWf R F)(hR:R≤999999999999990000)(ht:Tab w):Calls Tryz.prog 50 #[.pointer (some ⟨b,0,none⟩),.int .i64 x,.int .i64 n] w fun e w'=>e = .returned (.int .i64 (canE F x n))∧Ends b R F (subF F x.toNat (-n)) (canE F x n) w w':=by
 have HF0:=hid hf;have HW:=hid hr;have HT:=hid ht;have HB0:=hid (Below.refl w.heap.size w);clear hf hr ht;go_enter Tryz.func50,Tryz.ntmps50;go_wp2_with fail;refine (jAv b F x _ HF0.out).mono ?_;rintro e1 w1 ⟨rfl,hqe1⟩;obtain rfl:=hqe1.symm
 cases hh:hasU F x with
 | false=>(have HE:Hid (canE F x n=7):=by unfold Hid canE;rw[hh];rfl);clear hh;go_wp2;go_ret;exact ⟨by rw[HE.out];rfl,by rw[HE.out];exact Ends.refused HF0.out HW.out HT.out HB0.out (by decide)⟩
 | true=>
  obtain ⟨u,rfl,hu,htu⟩:=jA6 hh;(have hui:(u:Int)<6:=by omega);have HTU:=hid htu;have HH:=hid hh;clear htu hh;(have hto:(u:Int).toNat=u:=by omega);have HTO:=hid hto;clear hto;have lb:=HF0.out.lt;by_cases h1:n<1
  ·(have HE:Hid (canE F u n=8):=by unfold Hid canE;rw[HH.out];simp only[if_true];rw[if_pos (.inl h1)]);have d1:decide (n<1)=true:=decide_eq_true h1;go_wp2;go_ret;exact ⟨by rw[HE.out];rfl,by rw[HE.out];exact Ends.refused HF0.out HW.out HT.out HB0.out (by decide)⟩
  ·have d1:decide (n<1)=false:=decide_eq_false h1;have HWT:=hid (HW.out.wait40 hu);have HRN:=hid (HW.out.runs0 hu);have HTT:=hid (HW.out.tot u hu);obtain ⟨wt,hwt⟩:∃ t,F.m.wait u=t:=⟨_,rfl⟩;obtain ⟨c0,z0⟩:=HF0.out.cWait hu;have hwr:=HWT.out;rw[hwt] at c0 hwr;have HTS:=hid hwt;clear hwt;by_cases h2:wt<n
   ·(have HE:Hid (canE F u n=8):=by unfold Hid canE;rw[HH.out];simp only[if_true];rw[HTO.out,HTS.out];rw[if_pos (.inr h2)]);go_wp2;go_ret;exact ⟨by rw[HE.out];rfl,by rw[HE.out];exact Ends.refused HF0.out HW.out HT.out HB0.out (by decide)⟩
   ·(have HE:Hid (canE F u n=0):=by unfold Hid canE;rw[HH.out];simp only[if_true];rw[HTO.out,HTS.out];rw[if_neg (by omega)]);(go_upto_region 5 with fail);have HFw:=HF0;have HTw:=HT;have HOw:=hid (Only.refl w.heap.size b w);have HWQ:=HTS;go_region;clear c0 z0;(have HF3:Hid (FL (w.setCell ⟨b,43+u*22+7,none⟩ (.int .i64 (wt - n))) b (subF F u (-n))):=by have h9:=HFw.out.setWait hu (wt - n);rw[← HWQ.out] at h9 ⊢;rw[show F.m.wait u - n=F.m.wait u + -n by omega] at h9 ⊢;exact h9);have HO3:=hid (HOw.out.setCell _ (43+u*22+7) (.int .i64 (wt - n)));have HT3:Hid (Tab (w.setCell ⟨b,43+u*22+7,none⟩ (.int .i64 (wt - n)))):=HTw.out.only HFw.out ((Only.refl w.heap.size b w).setCell _ (43+u*22+7) (.int .i64 (wt - n))) (Nat.le_refl _);(go_upto_region 6 with fail);obtain ⟨V3,hV⟩:∃ V,V=(w.setCell ⟨b,43+u*22+7,none⟩ (.int .i64 (wt - n))):=⟨_,rfl⟩;rw[← hV] at HF3 HO3 HT3 ⊢;clear hV;have HF3d:Hid (FL V3.drew b _):=HF3.out;have HO3d:Hid (Only w.heap.size b w V3.drew):=⟨HO3.out.os,HO3.out.tape,HO3.out.output,HO3.out.size,HO3.out.block⟩;have HT3d:Hid (Tab V3.drew):=HT3.out.drew;go_wp2_with fail;refine (jBY b R (subF F u (-n)) _ HF3d.out (HW.out.sub hu HTU.out (by have h3:=HWQ.out;have h4:=HWT.out;omega) (by have h3:=HTT.out;have h4:=HWQ.out;have h5:=HWT.out;omega)) hR HT3d.out).mono ?_;rintro e9 w9 ⟨rfl,G,hf9,hs9,hw9,ht9,ho9⟩;have HE9:=hid (Ends.of (F:=F) (er:=0) HO3d.out hf9 hs9 hw9 ht9 ho9 rfl);clear hf9 hs9 hw9 ht9 ho9;go_wp2;go_ret;exact ⟨by rw[HE.out];rfl,by rw[HE.out,HTO.out];exact HE9.out⟩
theorem Finish_any (b:Nat)(R:Int)(F:Flt)(x y:Int)(w:World)(hf:FL w b F)(hr:FWf R F)(hR:R≤999999999999990000)(ht:Tab w):Calls Tryz.prog 49 #[.pointer (some ⟨b,0,none⟩),.int .i64 x,.int .i64 y] w fun e w'=>e = .returned (.int .i64 (finE F x y))∧Ends b R F (finF F x.toNat y.toNat) (finE F x y) w w':=by
 have HF0:=hid hf;have HW:=hid hr;have HT:=hid ht;have HB0:=hid (Below.refl w.heap.size w);clear hf hr ht;go_enter Tryz.func49,Tryz.ntmps49;go_wp2_with fail;refine (jAv b F x _ HF0.out).mono ?_;rintro e1 w1 ⟨rfl,hqe1⟩;obtain rfl:=hqe1.symm
 cases hh:hasU F x with
 | false=>(have HE:Hid (finE F x y=7):=by unfold Hid finE;rw[hh];rfl);clear hh;go_wp2;go_ret;exact ⟨by rw[HE.out];rfl,by rw[HE.out];exact Ends.refused HF0.out HW.out HT.out HB0.out (by decide)⟩
 | true=>
  go_wp2_with fail;refine (jBx b F y _ HF0.out).mono ?_;rintro e2 w2 ⟨rfl,hqe2⟩;obtain rfl:=hqe2.symm
  cases hm:hasM F y with
  | false=>(have HE:Hid (finE F x y=7):=by unfold Hid finE;rw[hh,hm];rfl);clear hh hm;go_wp2;go_ret;exact ⟨by rw[HE.out];rfl,by rw[HE.out];exact Ends.refused HF0.out HW.out HT.out HB0.out (by decide)⟩
  | true=>
   obtain ⟨u,rfl,hu,htu⟩:=jA6 hh;obtain ⟨m,rfl,hm8,htm⟩:=jC9 hm;(have hui:(u:Int)<6:=by omega);(have hmi:(m:Int)<8:=by omega);have HH:=hid hh;have HM:=hid hm;clear htu htm hh hm;(have hto:(u:Int).toNat=u:=by omega);(have htm:(m:Int).toNat=m:=by omega);have HTO:=hid hto;have HTM:=hid htm;clear hto htm;have lb:=HF0.out.lt;have HON:=hid (HW.out.on40 hu hm8);obtain ⟨q,hq⟩:∃ t,F.m.on u m=t:=⟨_,rfl⟩;obtain ⟨c0,z0⟩:=HF0.out.cOn hu hm8;have hqr:=HON.out;rw[hq] at c0 hqr;have HQ:=hid hq;clear hq;by_cases h2:q<1
   ·(have HE:Hid (finE F u m=8):=by unfold Hid finE;rw[HH.out,HM.out];simp only[Bool.and_self,if_true];rw[HTO.out,HTM.out,HQ.out,if_pos h2]);go_wp2;go_ret;exact ⟨by rw[HE.out];rfl,by rw[HE.out];exact Ends.refused HF0.out HW.out HT.out HB0.out (by decide)⟩
   ·(have HE:Hid (finE F u m=0):=by unfold Hid finE;rw[HH.out,HM.out];simp only[Bool.and_self,if_true];rw[HTO.out,HTM.out,HQ.out,if_neg h2]);(go_upto_region 5 with fail);have HOw:=hid (Only.refl w.heap.size b w);go_region;clear c0 z0;(have HF3:Hid (FL (w.setCell ⟨b,43+u*22+8+m,none⟩ (.int .i64 (q - 1))) b (finF F u m)):=by have h9:=HF0.out.setOn hu hm8 (q - 1);rw[← HQ.out] at h9 ⊢;exact h9);have HO3:=hid (HOw.out.setCell _ (43+u*22+8+m) (.int .i64 (q - 1)));have HT3:Hid (Tab (w.setCell ⟨b,43+u*22+8+m,none⟩ (.int .i64 (q - 1)))):=HT.out.only HF0.out ((Only.refl w.heap.size b w).setCell _ (43+u*22+8+m) (.int .i64 (q - 1))) (Nat.le_refl _);(go_upto_region 6 with fail);obtain ⟨V3,hV⟩:∃ V,V=(w.setCell ⟨b,43+u*22+8+m,none⟩ (.int .i64 (q - 1))):=⟨_,rfl⟩;rw[← hV] at HF3 HO3 HT3 ⊢;clear hV;have HF3d:Hid (FL V3.drew b _):=HF3.out;have HO3d:Hid (Only w.heap.size b w V3.drew):=⟨HO3.out.os,HO3.out.tape,HO3.out.output,HO3.out.size,HO3.out.block⟩;have HT3d:Hid (Tab V3.drew):=HT3.out.drew;go_wp2_with fail;refine (jBY b R (finF F u m) _ HF3d.out (HW.out.fin hu hm8 (by have h3:=HQ.out;omega)) hR HT3d.out).mono ?_;rintro e9 w9 ⟨rfl,G,hf9,hs9,hw9,ht9,ho9⟩;have HE9:=hid (Ends.of (F:=F) (er:=0) HO3d.out hf9 hs9 hw9 ht9 ho9 rfl);clear hf9 hs9 hw9 ht9 ho9;go_wp2;go_ret;exact ⟨by rw[HE.out];rfl,by rw[HE.out,HTO.out,HTM.out];exact HE9.out⟩
theorem Change_any (b:Nat)(R:Int)(F:Flt)(x wt cp:Int)(w:World)(hf:FL w b F)(hr:FWf R F)(hR:R≤999999999999990000)(ht:Tab w):Calls Tryz.prog 47 #[.pointer (some ⟨b,0,none⟩),.int .i64 x,.int .i64 wt,.int .i64 cp] w fun e w'=>e = .returned (.int .i64 (chgE F x wt cp))∧Ends b R F (chgF F x.toNat wt cp) (chgE F x wt cp) w w':=by
 have HF0:=hid hf;have HW:=hid hr;have HT:=hid ht;have HB0:=hid (Below.refl w.heap.size w);clear hf hr ht;go_enter Tryz.func47,Tryz.ntmps47;go_wp2_with fail;refine (jAv b F x _ HF0.out).mono ?_;rintro e1 w1 ⟨rfl,hqe1⟩;obtain rfl:=hqe1.symm
 cases hh:hasU F x with
 | false=>(have HE:Hid (chgE F x wt cp=7):=by unfold Hid chgE;rw[hh];rfl);clear hh;go_wp2;go_ret;exact ⟨by rw[HE.out];rfl,by rw[HE.out];exact Ends.refused HF0.out HW.out HT.out HB0.out (by decide)⟩
 | true=>
  go_wp2_with fail;refine (jBu wt _).mono ?_;rintro e2 w2 ⟨rfl,hqe2⟩;obtain rfl:=hqe2.symm
  cases hw:rngB 1 100 wt with
  | false=>(have HE:Hid (chgE F x wt cp=4):=by unfold Hid chgE;rw[hh,hw];rfl);clear hh hw;go_wp2;go_ret;exact ⟨by rw[HE.out];rfl,by rw[HE.out];exact Ends.refused HF0.out HW.out HT.out HB0.out (by decide)⟩
  | true=>
   go_wp2_with fail;refine (jES cp _).mono ?_;rintro e3 w3 ⟨rfl,hqe3⟩;obtain rfl:=hqe3.symm
   cases hc:rngB 0 1000 cp with
   | false=>(have HE:Hid (chgE F x wt cp=4):=by unfold Hid chgE;rw[hh,hw,hc];rfl);clear hh hw hc;go_wp2;go_ret;exact ⟨by rw[HE.out];rfl,by rw[HE.out];exact Ends.refused HF0.out HW.out HT.out HB0.out (by decide)⟩
   | true=>(have HE:Hid (chgE F x wt cp=0):=by unfold Hid chgE;rw[hh,hw,hc];rfl);(have HWR:Hid (1≤wt∧wt≤100):=by unfold rngB at hw;unfold Hid;simpa using hw);(have HCR:Hid (0≤cp∧cp≤1000):=by unfold rngB at hc;unfold Hid;simpa using hc);obtain ⟨u,rfl,hu,htu⟩:=jA6 hh;have HTU:=hid htu;(have hui:(u:Int)<6:=by omega);clear htu hh hw hc;(have hto:(u:Int).toNat=u:=by omega);have HTO:=hid hto;clear hto;have lb:=HF0.out.lt;obtain ⟨c0,z0⟩:=HF0.out.cUw hu;have HOw:=hid (Only.refl w.heap.size b w);have HF3:Hid (FL (w.setCell ⟨b,43+u*22+5,none⟩ (.int .i64 wt)) b ({ F with uw:=updI F.uw u wt })):=HF0.out.setUw hu wt;have HO3:=hid (HOw.out.setCell _ (43+u*22+5) (.int .i64 wt));have HT3:Hid (Tab (w.setCell ⟨b,43+u*22+5,none⟩ (.int .i64 wt))):=HT.out.only HF0.out ((Only.refl w.heap.size b w).setCell _ (43+u*22+5) (.int .i64 wt)) (Nat.le_refl _);(go_upto_region 6 with fail);clear c0 z0;obtain ⟨V3,hV⟩:∃ V,V=(w.setCell ⟨b,43+u*22+5,none⟩ (.int .i64 wt)):=⟨_,rfl⟩;rw[← hV] at HF3 HO3 HT3 ⊢;clear hV;have lb3:=HF3.out.lt;obtain ⟨c0,z0⟩:=HF3.out.cUc hu;have HF4:Hid (FL (V3.setCell ⟨b,43+u*22+6,none⟩ (.int .i64 cp)) b (chgF F u wt cp)):=HF3.out.setUc hu cp;have HO4:=hid (HO3.out.setCell _ (43+u*22+6) (.int .i64 cp));have HT4:Hid (Tab (V3.setCell ⟨b,43+u*22+6,none⟩ (.int .i64 cp))):=HT3.out.only HF3.out ((Only.refl V3.heap.size b V3).setCell _ (43+u*22+6) (.int .i64 cp)) (Nat.le_refl _);(go_upto_region 7 with fail);clear c0 z0;obtain ⟨V4,hV⟩:∃ V,V=(V3.setCell ⟨b,43+u*22+6,none⟩ (.int .i64 cp)):=⟨_,rfl⟩;rw[← hV] at HF4 HO4 HT4 ⊢;clear hV;go_wp2_with fail;refine (jBY b R (chgF F u wt cp) _ HF4.out (HW.out.chg hu HTU.out HWR.out HCR.out) hR HT4.out).mono ?_;rintro e9 w9 ⟨rfl,G,hf9,hs9,hw9,ht9,ho9⟩;have HE9:=hid (Ends.of (F:=F) (er:=0) HO4.out hf9 hs9 hw9 ht9 ho9 rfl);clear hf9 hs9 hw9 ht9 ho9;go_wp2;go_ret;exact ⟨by rw[HE.out];rfl,by rw[HE.out,HTO.out];exact HE9.out⟩
end Go.Proofs.YtigokanoflkinabGreatDoor
