/- WRatA, WRatB, WRatC, WRatD, WRatE, joined. -/
import Derived.Test.YtigokanoflkinaaGreatDoorWDiv
import Derived.Test.YtigokanoflkinaaGreatDoorPure
import Derived.Deep.RegionWith
import Derived.Deep.RegionHeld3
import Derived.Test.YtigokanoflkinaaGreatDoorWBase
import Derived.Test.YtigokanoflkinaaGreatDoorWTxt
/- ratio.lowest: a fraction brought to lowest terms. -/
namespace Go.Proofs.YtigokanoflkinaaGreatDoor
set_option linter.unusedSimpArgs false
set_option linter.unusedVariables false
open Go.RowKit Por

/-- A fraction of package ratio in memory. -/
def Frac (w : World) (v : Value) (q : Rat) : Prop := ∃ ao n capa bo m capb, v = .agg #[.bool (negB q), .slice ao n capa, .slice bo m capb] ∧ Row w ao n capa (limbs q.num.natAbs) ∧ Row w bo m capb (limbs q.den)

theorem Frac.below {w w' : World} {v : Value} {q : Rat} (h : Frac w v q) (hb : Below w.heap.size w w') : Frac w' v q := by
  obtain ⟨ao, n, capa, bo, m, capb, rfl, h1, h2⟩ := h
  exact ⟨ao, n, capa, bo, m, capb, rfl, h1.below hb, h2.below hb⟩

theorem Bx.keep {w w' : World} {b : Nat} {cs : Array Value} {T : TypeId} (h : Bx w b cs T) (hb : Below w.heap.size w w') : Bx w' b cs T := h.below hb h.lt

theorem Row.drew {w : World} {ao : Option Addr} {n cap : Nat} {xs : List Int} (h : Row w ao n cap xs) : Row w.drew ao n cap xs := h.below (Below.refl _ _).drew
theorem Bx.drew {w : World} {b : Nat} {cs : Array Value} {T : TypeId} (h : Bx w b cs T) : Bx w.drew b cs T := h

/-- a box of three cells, written whole -/
def wput3 (w : World) (b : Nat) (u0 u1 u2 : Value) : World := ((w.setCell ⟨b, 0, none⟩ u0).setCell ⟨b, 1, none⟩ u1).setCell ⟨b, 2, none⟩ u2
theorem Bx.put3 {w : World} {b : Nat} {x0 x1 x2 : Value} {T : TypeId} (h : Bx w b #[x0, x1, x2] T) (u0 u1 u2 : Value) : Bx (wput3 w b u0 u1 u2) b #[u0, u1, u2] T := by
  unfold Bx wput3
  have h1 := heap_setCell_same w b 0 _ _ u0 h
  have h2 := heap_setCell_same _ b 1 _ _ u1 h1
  have h3 := heap_setCell_same _ b 2 _ _ u2 h2
  rw [h3]; rfl
theorem Row.put3 {w : World} {ao : Option Addr} {n cap : Nat} {xs : List Int} (h : Row w ao n cap xs) {b : Nat} {x0 x1 x2 : Value} {T : TypeId} (hx : Bx w b #[x0, x1, x2] T) (hT : T ≠ 3) (u0 u1 u2 : Value) : Row (wput3 w b u0 u1 u2) ao n cap xs := by
  have h1 := heap_setCell_same w b 0 _ _ u0 hx
  have h2 := heap_setCell_same _ b 1 _ _ u1 h1
  exact ((h.other b 0 u0 hx hT).other b 1 u1 h1 hT).other b 2 u2 h2 hT
theorem below_put3 {B : Nat} {a w : World} (h : Below B a w) {b : Nat} (hb : B ≤ b) (u0 u1 u2 : Value) : Below B a (wput3 w b u0 u1 u2) := ((h.setCell hb u0).setCell hb u1).setCell hb u2
theorem Bx.put3_other {w : World} {b g : Nat} {cs : Array Value} {T : TypeId} (h : Bx w g cs T) (u0 u1 u2 : Value) (hne : b ≠ g) : Bx (wput3 w b u0 u1 u2) g cs T :=
  ((Bx.other h ⟨b, 0, none⟩ u0 hne).other ⟨b, 1, none⟩ u1 hne).other ⟨b, 2, none⟩ u2 hne

theorem cell_put3 {w : World} {b g i : Nat} {u0 u1 u2 : Value} (h : g ≠ b) : (wput3 w b u0 u1 u2).cell? ⟨g, i, none⟩ = w.cell? ⟨g, i, none⟩ := by
  unfold wput3
  have e : ∀ (w : World) (j : Nat) (u : Value), (w.setCell ⟨b, j, none⟩ u).cell? ⟨g, i, none⟩ = w.cell? ⟨g, i, none⟩ := fun w j u => World.cell?_of_block (Below.heap_setCell w _ u g h)
  rw [e, e, e]

set_option maxHeartbeats 1000000 in
theorem lowest_any (m : Bool) (ao bo : Option Addr) (n capa k capb : Nat) (x y : Nat) (w : World) (hr : Row w ao n capa (limbs x)) (hs : Row w bo k capb (limbs y)) (hn : n ≤ 40000) (hm : k ≤ 40000) (hy : y ≠ 0) :
    Calls Tryz.prog 104 #[.bool m, .agg #[.slice ao n capa], .agg #[.slice bo k capb]] w fun e w' => ∃ v, e = .returned v ∧ Frac w' v (mkRat (sg m x) y) ∧ Below w.heap.size w w' := by
  obtain ⟨c1, c2, c3, c5⟩ := boxes3 w #[.slice ao n capa] #[.slice bo k capb] #[.bool false, .slice none 0 0, .slice none 0 0] 88 88 90
  have hr1 := hid (hr.below c5)
  have hs1 := hid (hs.below c5)
  have ly := hid hs.len
  have lx := hid hr.len
  have H5 := hid c5
  have X1 := hid c1
  have X2 := hid c2
  have X3 := hid c3
  have HE := hid (low_eq m x y hy)
  clear hr hs c5 c1 c2 c3
  go_enter Tryz.func104, Tryz.ntmps104
  go_wp2_with fail
  refine (gcd_any ao bo n capa k capb x y _ hr1.out hs1.out hn hm).mono ?_
  rintro e w1 ⟨v, rfl, ⟨go, gn, gcap, rfl, hg⟩, hb1⟩
  have s1 := hb1.size
  simp only [World.size_alloc] at s1
  have A1 := hid (X1.out.keep hb1)
  have A2 := hid (X2.out.keep hb1)
  have A3 := hid (X3.out.keep hb1)
  have a1 := A1.out.cell 0 _ rfl
  have hra := hid (hr1.out.below hb1)
  have hsa := hid (hs1.out.below hb1)
  have HB1 : Hid (Below w.heap.size w w1) := H5.out.trans (hb1.mono (by simp; omega))
  have HG := hid hg
  have hgn : gn ≤ 40000 := by
    have h1 := hg.len
    have h2 := @len_mono (Nat.gcd x y) y (Nat.gcd_le_right x (by omega))
    have h3 := ly.out
    omega
  have p1 : w.heap.size < w1.heap.size := by omega
  have p2 : w.heap.size + 1 < w1.heap.size := by omega
  have p3 : w.heap.size + 1 + 1 < w1.heap.size := by omega
  clear hb1 hg hr1 hs1 X1 X2 X3 H5
  have ha := (Below.refl w1.heap.size w1).alloc (Nat.le_refl _) (.cells #[.slice go gn gcap] 88)
  have C1 := hid (bx_past A1.out (.cells #[.slice go gn gcap] 88))
  have C2 := hid (bx_past A2.out (.cells #[.slice go gn gcap] 88))
  have C3 := hid (bx_past A3.out (.cells #[.slice go gn gcap] 88))
  have C4 := hid (bx_new w1 #[.slice go gn gcap] 88)
  have hrc := hid (hra.out.below ha)
  have hsc := hid (hsa.out.below ha)
  have hgc := hid (HG.out.below ha)
  have HA := hid ha
  clear ha
  go_wp2_with fail
  refine (quotient_any ao go n capa gn gcap x (Nat.gcd x y) _ hrc.out hgc.out hn hgn).mono ?_
  rintro e w2 ⟨v, rfl, ⟨ro, rn, rcap, rfl, hq⟩, hb2⟩
  have s2 := hb2.size
  simp only [World.size_alloc] at s2
  have D1 := hid (C1.out.keep hb2)
  have D2 := hid (C2.out.keep hb2)
  have D3 := hid (C3.out.keep hb2)
  have D4 := hid (C4.out.keep hb2)
  have d1 := D1.out.cell 0 _ rfl
  have d1f := D1.out.frozen 0
  have d2 := D2.out.cell 0 _ rfl
  have d4 := D4.out.cell 0 _ rfl
  have hsd := hid (hsc.out.below hb2)
  have hgd := hid (hgc.out.below hb2)
  have HQ := hid hq
  have HB2 : Hid (Below w.heap.size w w2) := HB1.out.trans ((HA.out.mono (by omega)).trans (hb2.mono (by simp; omega)))
  clear hb2 hq a1 A1 A2 A3 HG hra hsa
  have E2 := hid (D2.out.other ⟨w.heap.size, 0, none⟩ (.slice ro rn rcap) (by show w.heap.size ≠ w.heap.size + 1; omega))
  have E3 := hid (D3.out.other ⟨w.heap.size, 0, none⟩ (.slice ro rn rcap) (by show w.heap.size ≠ w.heap.size + 1 + 1; omega))
  have E1 := hid (D1.out.set (.slice ro rn rcap))
  have hse := hid (hsd.out.other w.heap.size 0 (.slice ro rn rcap) D1.out (by decide))
  have hge := hid (hgd.out.other w.heap.size 0 (.slice ro rn rcap) D1.out (by decide))
  have hqe := hid (HQ.out.other w.heap.size 0 (.slice ro rn rcap) D1.out (by decide))
  have p4 : w.heap.size ≠ w1.heap.size := by omega
  go_wp2_with fail
  refine (quotient_any bo go k capb gn gcap y (Nat.gcd x y) _ hse.out hge.out hm hgn).mono ?_
  rintro e w3 ⟨v, rfl, ⟨so, sn, scap, rfl, hq3⟩, hb3⟩
  have s3 := hb3.size
  have F1 := hid (E1.out.keep hb3)
  have F2 := hid (E2.out.keep hb3)
  have F3 := hid (E3.out.keep hb3)
  have f1 := F1.out.cell 0 _ rfl
  have f2 := F2.out.cell 0 _ rfl
  have f2f := F2.out.frozen 0
  have HB3 : Hid (Below w.heap.size w w3) := (HB2.out.setCell (Nat.le_refl _) _).trans (hb3.mono (by simp [World.setCell]; omega))
  have hqf := hid (hqe.out.below hb3)
  have HQ3 := hid hq3
  clear hb3 hq3 d1 d1f d2 d4
  have G1 := hid (F1.out.other ⟨w.heap.size + 1, 0, none⟩ (.slice so sn scap) (by show w.heap.size + 1 ≠ w.heap.size; omega))
  have G2 := hid (F2.out.set (.slice so sn scap))
  have G3 := hid (F3.out.other ⟨w.heap.size + 1, 0, none⟩ (.slice so sn scap) (by show w.heap.size + 1 ≠ w.heap.size + 1 + 1; omega))
  have hqg := hid (hqf.out.other (w.heap.size + 1) 0 (.slice so sn scap) F2.out (by decide))
  have HQg := hid (HQ3.out.other (w.heap.size + 1) 0 (.slice so sn scap) F2.out (by decide))
  have HBg : Hid (Below w.heap.size w (w3.setCell ⟨w.heap.size + 1, 0, none⟩ (.slice so sn scap))) := HB3.out.setCell (by show w.heap.size ≤ w.heap.size + 1; omega) _
  obtain ⟨W, hW⟩ : ∃ W, W = w3.setCell ⟨w.heap.size + 1, 0, none⟩ (.slice so sn scap) := ⟨_, rfl⟩
  go_wp2_with fail
  rw [← hW] at G1 G2 G3 hqg HQg HBg ⊢
  have g1 := G1.out.cell 0 _ rfl
  have g2 := G2.out.cell 0 _ rfl
  have g3 := G3.out.cell 0 _ rfl
  have g4 := G3.out.cell 1 _ rfl
  have g5 := G3.out.cell 2 _ rfl
  have f3 := G3.out.frozen 0
  have f4 := G3.out.frozen 1
  have f5 := G3.out.frozen 2
  have hrn : rn ≤ 40000 := by
    have h1 := HQ.out.len
    have h2 := @len_mono (x / Nat.gcd x y) x (Nat.div_le_self x _)
    have h3 := lx.out
    omega
  clear hW f1 f2 f2f F1 F2 F3 E1 E2 E3 D1 D2 D3 D4 C1 C2 C3 C4 hqf HQ3 hse hge hqe hsd hgd HQ hrc hsc hgc HA HB3 HB2 HB1 p4 s3 s2 s1 hgn p1 p2 p3
  have HBs : w.heap.size ≤ w.heap.size + 1 + 1 := by omega
  cases m
  · go_region
    go_wp2
    have Z := (G3.out.put3 (.bool false) (.slice ro rn rcap) (.slice so sn scap)).drew
    have z0 := Z.cell 0 _ rfl
    have z1 := Z.cell 1 _ rfl
    have z2 := Z.cell 2 _ rfl
    unfold wput3 at z0 z1 z2
    refine bodyPost_ret (v := .agg #[.bool false, .slice ro rn rcap, .slice so sn scap]) (by simp [results, Tryz.results104, go_sem, z0, z1, z2]) rfl ⟨_, rfl, ⟨ro, rn, rcap, so, sn, scap, ?_, ?_, ?_⟩, ?_⟩
    · rw [HE.out.2.2]; rfl
    · rw [HE.out.1]; exact (hqg.out.put3 G3.out (by decide) _ _ _).drew
    · rw [HE.out.2.1]; exact (HQg.out.put3 G3.out (by decide) _ _ _).drew
    · exact (below_put3 HBg.out HBs _ _ _).drew
  · go_region_held3 (fun w' => w'.cell? ⟨w.heap.size, 0, none⟩ = some (.slice ro rn rcap) ∧ w'.cell? ⟨w.heap.size + 1, 0, none⟩ = some (.slice so sn scap)) (first | exact ⟨k1, k2⟩ | exact ⟨g1, g2⟩ | exact ⟨(cell_put3 (by omega)).trans k1, (cell_put3 (by omega)).trans k2⟩)
      (first | (go_at_call 149; refine (isZero_any ro rn rcap (x / Nat.gcd x y) _ (hqg.out.drew) (by omega)).mono ?_; rintro e w4 ⟨rfl, hb4⟩; have k1 := (G1.out.drew.keep hb4).cell 0 _ rfl; have k2 := (G2.out.drew.keep hb4).cell 0 _ rfl; have k3 := (G3.out.drew.keep hb4).cell 0 _ rfl; have k4 := (G3.out.drew.keep hb4).cell 1 _ rfl; have k5 := (G3.out.drew.keep hb4).cell 2 _ rfl; have j3 := (G3.out.drew.keep hb4).frozen 0; have j4 := (G3.out.drew.keep hb4).frozen 1; have j5 := (G3.out.drew.keep hb4).frozen 2; have Hb4 := hid hb4; clear hb4))
    go_wp2
    have Z := (G3.out.drew.keep Hb4.out).put3 (.bool (!isZ (x / Nat.gcd x y))) (.slice ro rn rcap) (.slice so sn scap)
    have z0 := Z.cell 0 _ rfl
    have z1 := Z.cell 1 _ rfl
    have z2 := Z.cell 2 _ rfl
    unfold wput3 at z0 z1 z2
    refine bodyPost_ret (v := .agg #[.bool (!isZ (x / Nat.gcd x y)), .slice ro rn rcap, .slice so sn scap]) (by simp [results, Tryz.results104, go_sem, z0, z1, z2]) rfl ⟨_, rfl, ⟨ro, rn, rcap, so, sn, scap, ?_, ?_, ?_⟩, ?_⟩
    · rw [HE.out.2.2]; rfl
    · rw [HE.out.1]; exact (hqg.out.drew.below Hb4.out).put3 (G3.out.drew.keep Hb4.out) (by decide) _ _ _
    · rw [HE.out.2.1]; exact (HQg.out.drew.below Hb4.out).put3 (G3.out.drew.keep Hb4.out) (by decide) _ _ _
    · exact below_put3 (HBg.out.drew.trans (Hb4.out.mono (by have := HBg.out.size; exact this))) HBs _ _ _
end Go.Proofs.YtigokanoflkinaaGreatDoor

/- ratio.Add, Subtract, Multiply, Divide: the sum, the difference, the product and the quotient of any two fractions. (Laid by mkratb.py.) -/
namespace Go.Proofs.YtigokanoflkinaaGreatDoor
set_option linter.unusedSimpArgs false
set_option linter.unusedVariables false
open Go.RowKit Por

theorem prod_len {a b n m : Nat} (ha : (limbs a).length = n) (hb : (limbs b).length = m) : (limbs (a * b)).length ≤ n + m := by
  have := len_mul a b; omega
theorem sum_len {a b k : Nat} (ha : (limbs a).length ≤ k) (hb : (limbs b).length ≤ k) : (limbs (a + b)).length ≤ k + 1 := by
  have := len_add a b; omega
theorem diff_len {a b k : Nat} (ha : (limbs a).length ≤ k) : (limbs (a - b)).length ≤ k := Nat.le_trans (len_mono (Nat.sub_le a b)) ha

set_option maxHeartbeats 2000000 in
set_option maxRecDepth 20000 in
theorem radd_eq (ao bo co eo : Option Addr) (n capa m capb p capc q capd : Nat) (x y : Rat) (w : World) (h1 : Row w ao n capa (limbs x.num.natAbs)) (h2 : Row w bo m capb (limbs x.den)) (h3 : Row w co p capc (limbs y.num.natAbs)) (h4 : Row w eo q capd (limbs y.den)) (b1 : n ≤ 10000) (b2 : m ≤ 10000) (b3 : p ≤ 10000) (b4 : q ≤ 10000) (he : negB x = negB y) :
    Calls Tryz.prog 51 #[.agg #[.bool (negB x), .slice ao n capa, .slice bo m capb], .agg #[.bool (negB y), .slice co p capc, .slice eo q capd]] w fun e w' => ∃ v, e = .returned v ∧ Frac w' v (x + y) ∧ Below w.heap.size w w' := by
  have hs : (negB x == negB y) = true := by rw [he]; exact beq_self_eq_true _
  have he' := hid he
  clear he
  obtain ⟨c1, c2, c3, c5⟩ := boxes3 w #[.bool (negB x), .slice ao n capa, .slice bo m capb] #[.bool (negB y), .slice co p capc, .slice eo q capd] #[.bool false, .slice none 0 0, .slice none 0 0] 90 90 90
  have R0_0 := hid (h1.below c5)
  have len0 := h1.len
  have R1_0 := hid (h2.below c5)
  have len1 := h2.len
  have R2_0 := hid (h3.below c5)
  have len2 := h3.len
  have R3_0 := hid (h4.below c5)
  have len3 := h4.len
  have XA_0 := hid c1
  have XB_0 := hid c2
  have XR_0 := hid c3
  have HB_0 := hid c5
  clear h1 h2 h3 h4 c1 c2 c3 c5
  go_enter Tryz.func51, Tryz.ntmps51
  go_wp2_with fail
  refine (mul_any ao eo n capa q capd (x.num.natAbs) (y.den) _ R0_0.out R3_0.out (by omega)).mono ?_
  rintro e0 w0 ⟨v0, rfl, ⟨lo, ln, lc, rfl, hr0⟩, hb0⟩
  have XA_1 := hid (XA_0.out.keep hb0)
  have XB_1 := hid (XB_0.out.keep hb0)
  have XR_1 := hid (XR_0.out.keep hb0)
  have R0_1 := hid (R0_0.out.below hb0)
  have R1_1 := hid (R1_0.out.below hb0)
  have R2_1 := hid (R2_0.out.below hb0)
  have R3_1 := hid (R3_0.out.below hb0)
  have HB_1 : Hid (Below w.heap.size w w0) := HB_0.out.trans (hb0.mono HB_0.out.size)
  have ltA := XA_1.out.lt
  have cA0 := XA_1.out.cell 0 _ rfl
  have cA1 := XA_1.out.cell 1 _ rfl
  have cA2 := XA_1.out.cell 2 _ rfl
  have ltB := XB_1.out.lt
  have cB0 := XB_1.out.cell 0 _ rfl
  have cB1 := XB_1.out.cell 1 _ rfl
  have cB2 := XB_1.out.cell 2 _ rfl
  have ltR := XR_1.out.lt
  have cR0 := XR_1.out.cell 0 _ rfl
  have zR0 := XR_1.out.frozen 0
  have cR1 := XR_1.out.cell 1 _ rfl
  have zR1 := XR_1.out.frozen 1
  have cR2 := XR_1.out.cell 2 _ rfl
  have zR2 := XR_1.out.frozen 2
  have Rl_1 := hid hr0
  have lenl := hr0.len
  have bdl : ln ≤ 20000 := by rw [← lenl]; exact Nat.le_trans (prod_len len0 len3) (by omega)
  clear hb0 hr0
  have YA_1 := hid (bx_past XA_1.out (.cells #[.slice lo ln lc] 88))
  have YB_1 := hid (bx_past XB_1.out (.cells #[.slice lo ln lc] 88))
  have YR_1 := hid (bx_past XR_1.out (.cells #[.slice lo ln lc] 88))
  have Yl_1 := hid (bx_new w0 #[.slice lo ln lc] 88)
  have Q0_1 := hid (R0_1.out.alloc (.cells #[.slice lo ln lc] 88))
  have Q1_1 := hid (R1_1.out.alloc (.cells #[.slice lo ln lc] 88))
  have Q2_1 := hid (R2_1.out.alloc (.cells #[.slice lo ln lc] 88))
  have Q3_1 := hid (R3_1.out.alloc (.cells #[.slice lo ln lc] 88))
  have Ql_1 := hid (Rl_1.out.alloc (.cells #[.slice lo ln lc] 88))
  have HC_1 : Hid (Below w.heap.size w (w0.alloc (.cells #[.slice lo ln lc] 88))) := HB_1.out.alloc HB_1.out.size (.cells #[.slice lo ln lc] 88)
  go_wp2_with fail
  refine (mul_any co bo p capc m capb (y.num.natAbs) (x.den) _ Q2_1.out Q1_1.out (by omega)).mono ?_
  rintro e1 w1 ⟨v1, rfl, ⟨ro, rn, rc, rfl, hr1⟩, hb1⟩
  have XA_2 := hid (YA_1.out.keep hb1)
  have XB_2 := hid (YB_1.out.keep hb1)
  have XR_2 := hid (YR_1.out.keep hb1)
  have Xl_2 := hid (Yl_1.out.keep hb1)
  have R0_2 := hid (Q0_1.out.below hb1)
  have R1_2 := hid (Q1_1.out.below hb1)
  have R2_2 := hid (Q2_1.out.below hb1)
  have R3_2 := hid (Q3_1.out.below hb1)
  have Rl_2 := hid (Ql_1.out.below hb1)
  have HB_2 : Hid (Below w.heap.size w w1) := HC_1.out.trans (hb1.mono HC_1.out.size)
  clear ltA cA0 cA1 cA2 ltB cB0 cB1 cB2 ltR cR0 zR0 cR1 zR1 cR2 zR2
  have ltA := XA_2.out.lt
  have cA0 := XA_2.out.cell 0 _ rfl
  have cA1 := XA_2.out.cell 1 _ rfl
  have cA2 := XA_2.out.cell 2 _ rfl
  have ltB := XB_2.out.lt
  have cB0 := XB_2.out.cell 0 _ rfl
  have cB1 := XB_2.out.cell 1 _ rfl
  have cB2 := XB_2.out.cell 2 _ rfl
  have ltR := XR_2.out.lt
  have cR0 := XR_2.out.cell 0 _ rfl
  have zR0 := XR_2.out.frozen 0
  have cR1 := XR_2.out.cell 1 _ rfl
  have zR1 := XR_2.out.frozen 1
  have cR2 := XR_2.out.cell 2 _ rfl
  have zR2 := XR_2.out.frozen 2
  have ltl := Xl_2.out.lt
  have cl0 := Xl_2.out.cell 0 _ rfl
  have Rr_2 := hid hr1
  have lenr := hr1.len
  have bdr : rn ≤ 20000 := by rw [← lenr]; exact Nat.le_trans (prod_len len2 len1) (by omega)
  clear hb1 hr1
  have YA_2 := hid (bx_past XA_2.out (.cells #[.slice ro rn rc] 88))
  have YB_2 := hid (bx_past XB_2.out (.cells #[.slice ro rn rc] 88))
  have YR_2 := hid (bx_past XR_2.out (.cells #[.slice ro rn rc] 88))
  have Yl_2 := hid (bx_past Xl_2.out (.cells #[.slice ro rn rc] 88))
  have Yr_2 := hid (bx_new w1 #[.slice ro rn rc] 88)
  have Q0_2 := hid (R0_2.out.alloc (.cells #[.slice ro rn rc] 88))
  have Q1_2 := hid (R1_2.out.alloc (.cells #[.slice ro rn rc] 88))
  have Q2_2 := hid (R2_2.out.alloc (.cells #[.slice ro rn rc] 88))
  have Q3_2 := hid (R3_2.out.alloc (.cells #[.slice ro rn rc] 88))
  have Ql_2 := hid (Rl_2.out.alloc (.cells #[.slice ro rn rc] 88))
  have Qr_2 := hid (Rr_2.out.alloc (.cells #[.slice ro rn rc] 88))
  have HC_2 : Hid (Below w.heap.size w (w1.alloc (.cells #[.slice ro rn rc] 88))) := HB_2.out.alloc HB_2.out.size (.cells #[.slice ro rn rc] 88)
  go_wp2_with fail
  refine (mul_any bo eo m capb q capd (x.den) (y.den) _ Q1_2.out Q3_2.out (by omega)).mono ?_
  rintro e2 w2 ⟨v2, rfl, ⟨ko, kn, kc, rfl, hr2⟩, hb2⟩
  have XA_3 := hid (YA_2.out.keep hb2)
  have XB_3 := hid (YB_2.out.keep hb2)
  have XR_3 := hid (YR_2.out.keep hb2)
  have Xl_3 := hid (Yl_2.out.keep hb2)
  have Xr_3 := hid (Yr_2.out.keep hb2)
  have R0_3 := hid (Q0_2.out.below hb2)
  have R1_3 := hid (Q1_2.out.below hb2)
  have R2_3 := hid (Q2_2.out.below hb2)
  have R3_3 := hid (Q3_2.out.below hb2)
  have Rl_3 := hid (Ql_2.out.below hb2)
  have Rr_3 := hid (Qr_2.out.below hb2)
  have HB_3 : Hid (Below w.heap.size w w2) := HC_2.out.trans (hb2.mono HC_2.out.size)
  clear ltA cA0 cA1 cA2 ltB cB0 cB1 cB2 ltR cR0 zR0 cR1 zR1 cR2 zR2 ltl cl0
  have ltA := XA_3.out.lt
  have cA0 := XA_3.out.cell 0 _ rfl
  have cA1 := XA_3.out.cell 1 _ rfl
  have cA2 := XA_3.out.cell 2 _ rfl
  have ltB := XB_3.out.lt
  have cB0 := XB_3.out.cell 0 _ rfl
  have cB1 := XB_3.out.cell 1 _ rfl
  have cB2 := XB_3.out.cell 2 _ rfl
  have ltR := XR_3.out.lt
  have cR0 := XR_3.out.cell 0 _ rfl
  have zR0 := XR_3.out.frozen 0
  have cR1 := XR_3.out.cell 1 _ rfl
  have zR1 := XR_3.out.frozen 1
  have cR2 := XR_3.out.cell 2 _ rfl
  have zR2 := XR_3.out.frozen 2
  have ltl := Xl_3.out.lt
  have cl0 := Xl_3.out.cell 0 _ rfl
  have ltr := Xr_3.out.lt
  have cr0 := Xr_3.out.cell 0 _ rfl
  have Rk_3 := hid hr2
  have lenk := hr2.len
  have bdk : kn ≤ 20000 := by rw [← lenk]; exact Nat.le_trans (prod_len len1 len3) (by omega)
  clear hb2 hr2
  have YA_3 := hid (bx_past XA_3.out (.cells #[.slice ko kn kc] 88))
  have YB_3 := hid (bx_past XB_3.out (.cells #[.slice ko kn kc] 88))
  have YR_3 := hid (bx_past XR_3.out (.cells #[.slice ko kn kc] 88))
  have Yl_3 := hid (bx_past Xl_3.out (.cells #[.slice ko kn kc] 88))
  have Yr_3 := hid (bx_past Xr_3.out (.cells #[.slice ko kn kc] 88))
  have Yk_3 := hid (bx_new w2 #[.slice ko kn kc] 88)
  have Q0_3 := hid (R0_3.out.alloc (.cells #[.slice ko kn kc] 88))
  have Q1_3 := hid (R1_3.out.alloc (.cells #[.slice ko kn kc] 88))
  have Q2_3 := hid (R2_3.out.alloc (.cells #[.slice ko kn kc] 88))
  have Q3_3 := hid (R3_3.out.alloc (.cells #[.slice ko kn kc] 88))
  have Ql_3 := hid (Rl_3.out.alloc (.cells #[.slice ko kn kc] 88))
  have Qr_3 := hid (Rr_3.out.alloc (.cells #[.slice ko kn kc] 88))
  have Qk_3 := hid (Rk_3.out.alloc (.cells #[.slice ko kn kc] 88))
  have HC_3 : Hid (Below w.heap.size w (w2.alloc (.cells #[.slice ko kn kc] 88))) := HB_3.out.alloc HB_3.out.size (.cells #[.slice ko kn kc] 88)
  go_wp2_with fail
  refine (add_any lo ro ln lc rn rc (x.num.natAbs * y.den) (y.num.natAbs * x.den) _ Ql_3.out Qr_3.out (by omega) (by omega)).mono ?_
  rintro e3 w3 ⟨v3, rfl, ⟨so, sn, sc, rfl, hr3⟩, hb3⟩
  have XA_4 := hid (YA_3.out.keep hb3)
  have XB_4 := hid (YB_3.out.keep hb3)
  have XR_4 := hid (YR_3.out.keep hb3)
  have Xl_4 := hid (Yl_3.out.keep hb3)
  have Xr_4 := hid (Yr_3.out.keep hb3)
  have Xk_4 := hid (Yk_3.out.keep hb3)
  have R0_4 := hid (Q0_3.out.below hb3)
  have R1_4 := hid (Q1_3.out.below hb3)
  have R2_4 := hid (Q2_3.out.below hb3)
  have R3_4 := hid (Q3_3.out.below hb3)
  have Rl_4 := hid (Ql_3.out.below hb3)
  have Rr_4 := hid (Qr_3.out.below hb3)
  have Rk_4 := hid (Qk_3.out.below hb3)
  have HB_4 : Hid (Below w.heap.size w w3) := HC_3.out.trans (hb3.mono HC_3.out.size)
  clear ltA cA0 cA1 cA2 ltB cB0 cB1 cB2 ltR cR0 zR0 cR1 zR1 cR2 zR2 ltl cl0 ltr cr0
  have ltA := XA_4.out.lt
  have cA0 := XA_4.out.cell 0 _ rfl
  have cA1 := XA_4.out.cell 1 _ rfl
  have cA2 := XA_4.out.cell 2 _ rfl
  have ltB := XB_4.out.lt
  have cB0 := XB_4.out.cell 0 _ rfl
  have cB1 := XB_4.out.cell 1 _ rfl
  have cB2 := XB_4.out.cell 2 _ rfl
  have ltR := XR_4.out.lt
  have cR0 := XR_4.out.cell 0 _ rfl
  have zR0 := XR_4.out.frozen 0
  have cR1 := XR_4.out.cell 1 _ rfl
  have zR1 := XR_4.out.frozen 1
  have cR2 := XR_4.out.cell 2 _ rfl
  have zR2 := XR_4.out.frozen 2
  have ltl := Xl_4.out.lt
  have cl0 := Xl_4.out.cell 0 _ rfl
  have ltr := Xr_4.out.lt
  have cr0 := Xr_4.out.cell 0 _ rfl
  have ltk := Xk_4.out.lt
  have ck0 := Xk_4.out.cell 0 _ rfl
  have Rs_4 := hid hr3
  have lens := hr3.len
  have bds : sn ≤ 20001 := by rw [← lens]; exact sum_len (by omega) (by omega)
  clear hb3 hr3
  have YA_4 := hid (bx_past XA_4.out (.cells #[.slice so sn sc] 88))
  have YB_4 := hid (bx_past XB_4.out (.cells #[.slice so sn sc] 88))
  have YR_4 := hid (bx_past XR_4.out (.cells #[.slice so sn sc] 88))
  have Yl_4 := hid (bx_past Xl_4.out (.cells #[.slice so sn sc] 88))
  have Yr_4 := hid (bx_past Xr_4.out (.cells #[.slice so sn sc] 88))
  have Yk_4 := hid (bx_past Xk_4.out (.cells #[.slice so sn sc] 88))
  have Ys_4 := hid (bx_new w3 #[.slice so sn sc] 88)
  have Q0_4 := hid (R0_4.out.alloc (.cells #[.slice so sn sc] 88))
  have Q1_4 := hid (R1_4.out.alloc (.cells #[.slice so sn sc] 88))
  have Q2_4 := hid (R2_4.out.alloc (.cells #[.slice so sn sc] 88))
  have Q3_4 := hid (R3_4.out.alloc (.cells #[.slice so sn sc] 88))
  have Ql_4 := hid (Rl_4.out.alloc (.cells #[.slice so sn sc] 88))
  have Qr_4 := hid (Rr_4.out.alloc (.cells #[.slice so sn sc] 88))
  have Qk_4 := hid (Rk_4.out.alloc (.cells #[.slice so sn sc] 88))
  have Qs_4 := hid (Rs_4.out.alloc (.cells #[.slice so sn sc] 88))
  have HC_4 : Hid (Below w.heap.size w (w3.alloc (.cells #[.slice so sn sc] 88))) := HB_4.out.alloc HB_4.out.size (.cells #[.slice so sn sc] 88)
  go_wp2_with fail
  refine (lowest_any (negB x) so ko sn sc kn kc (x.num.natAbs * y.den + y.num.natAbs * x.den) (x.den * y.den) _ Qs_4.out Qk_4.out (by omega) (by omega) (Nat.mul_ne_zero x.den_nz y.den_nz)).mono ?_
  rintro e4 w4 ⟨v4, rfl, ⟨go, gn, gc, ho, hn, hc, rfl, hg, hh⟩, hb4⟩
  have XA_5 := hid (YA_4.out.keep hb4)
  have XB_5 := hid (YB_4.out.keep hb4)
  have XR_5 := hid (YR_4.out.keep hb4)
  have Xl_5 := hid (Yl_4.out.keep hb4)
  have Xr_5 := hid (Yr_4.out.keep hb4)
  have Xk_5 := hid (Yk_4.out.keep hb4)
  have Xs_5 := hid (Ys_4.out.keep hb4)
  have R0_5 := hid (Q0_4.out.below hb4)
  have R1_5 := hid (Q1_4.out.below hb4)
  have R2_5 := hid (Q2_4.out.below hb4)
  have R3_5 := hid (Q3_4.out.below hb4)
  have Rl_5 := hid (Ql_4.out.below hb4)
  have Rr_5 := hid (Qr_4.out.below hb4)
  have Rk_5 := hid (Qk_4.out.below hb4)
  have Rs_5 := hid (Qs_4.out.below hb4)
  have HB_5 : Hid (Below w.heap.size w w4) := HC_4.out.trans (hb4.mono HC_4.out.size)
  clear ltA cA0 cA1 cA2 ltB cB0 cB1 cB2 ltR cR0 zR0 cR1 zR1 cR2 zR2 ltl cl0 ltr cr0 ltk ck0
  have ltA := XA_5.out.lt
  have cA0 := XA_5.out.cell 0 _ rfl
  have cA1 := XA_5.out.cell 1 _ rfl
  have cA2 := XA_5.out.cell 2 _ rfl
  have ltB := XB_5.out.lt
  have cB0 := XB_5.out.cell 0 _ rfl
  have cB1 := XB_5.out.cell 1 _ rfl
  have cB2 := XB_5.out.cell 2 _ rfl
  have ltR := XR_5.out.lt
  have cR0 := XR_5.out.cell 0 _ rfl
  have zR0 := XR_5.out.frozen 0
  have cR1 := XR_5.out.cell 1 _ rfl
  have zR1 := XR_5.out.frozen 1
  have cR2 := XR_5.out.cell 2 _ rfl
  have zR2 := XR_5.out.frozen 2
  have ltl := Xl_5.out.lt
  have cl0 := Xl_5.out.cell 0 _ rfl
  have ltr := Xr_5.out.lt
  have cr0 := Xr_5.out.cell 0 _ rfl
  have ltk := Xk_5.out.lt
  have ck0 := Xk_5.out.cell 0 _ rfl
  have lts := Xs_5.out.lt
  have cs0 := Xs_5.out.cell 0 _ rfl
  have HG := hid hg
  have HH := hid hh
  clear hb4 hg hh
  go_wp2
  have Z := XR_5.out.put3 (.bool (negB (mkRat (sg (negB x) (x.num.natAbs * y.den + y.num.natAbs * x.den)) (x.den * y.den)))) (.slice go gn gc) (.slice ho hn hc)
  have z0 := Z.cell 0 _ rfl
  have z1 := Z.cell 1 _ rfl
  have z2 := Z.cell 2 _ rfl
  unfold wput3 at z0 z1 z2
  refine bodyPost_ret (v := .agg #[.bool (negB (mkRat (sg (negB x) (x.num.natAbs * y.den + y.num.natAbs * x.den)) (x.den * y.den))), .slice go gn gc, .slice ho hn hc]) (by simp [results, Tryz.results51, go_sem, z0, z1, z2]) rfl ⟨_, rfl, ?_, below_put3 HB_5.out (by omega) _ _ _⟩
  rw [add_sg, ← he'.out, sg_same]
  exact ⟨go, gn, gc, ho, hn, hc, rfl, HG.out.put3 XR_5.out (by decide) _ _ _, HH.out.put3 XR_5.out (by decide) _ _ _⟩

set_option maxHeartbeats 2000000 in
set_option maxRecDepth 20000 in
theorem radd_lt (ao bo co eo : Option Addr) (n capa m capb p capc q capd : Nat) (x y : Rat) (w : World) (h1 : Row w ao n capa (limbs x.num.natAbs)) (h2 : Row w bo m capb (limbs x.den)) (h3 : Row w co p capc (limbs y.num.natAbs)) (h4 : Row w eo q capd (limbs y.den)) (b1 : n ≤ 10000) (b2 : m ≤ 10000) (b3 : p ≤ 10000) (b4 : q ≤ 10000) (hne : negB x ≠ negB y) (hlt : (x.num.natAbs * y.den < y.num.natAbs * x.den)) :
    Calls Tryz.prog 51 #[.agg #[.bool (negB x), .slice ao n capa, .slice bo m capb], .agg #[.bool (negB y), .slice co p capc, .slice eo q capd]] w fun e w' => ∃ v, e = .returned v ∧ Frac w' v (x + y) ∧ Below w.heap.size w w' := by
  have hs : (negB x == negB y) = false := by rw [beq_eq_false_iff_ne]; exact hne
  have hc : Hid (cmp3 ((x.num.natAbs * y.den : Nat) : Int) ((y.num.natAbs * x.den : Nat) : Int) = -1) := by show _ = _; unfold cmp3; rw [if_pos (by omega)]
  have hne' := hid hne
  have hlt' := hid hlt
  clear hne hlt
  obtain ⟨c1, c2, c3, c5⟩ := boxes3 w #[.bool (negB x), .slice ao n capa, .slice bo m capb] #[.bool (negB y), .slice co p capc, .slice eo q capd] #[.bool false, .slice none 0 0, .slice none 0 0] 90 90 90
  have R0_0 := hid (h1.below c5)
  have len0 := h1.len
  have R1_0 := hid (h2.below c5)
  have len1 := h2.len
  have R2_0 := hid (h3.below c5)
  have len2 := h3.len
  have R3_0 := hid (h4.below c5)
  have len3 := h4.len
  have XA_0 := hid c1
  have XB_0 := hid c2
  have XR_0 := hid c3
  have HB_0 := hid c5
  clear h1 h2 h3 h4 c1 c2 c3 c5
  go_enter Tryz.func51, Tryz.ntmps51
  go_wp2_with fail
  refine (mul_any ao eo n capa q capd (x.num.natAbs) (y.den) _ R0_0.out R3_0.out (by omega)).mono ?_
  rintro e0 w0 ⟨v0, rfl, ⟨lo, ln, lc, rfl, hr0⟩, hb0⟩
  have XA_1 := hid (XA_0.out.keep hb0)
  have XB_1 := hid (XB_0.out.keep hb0)
  have XR_1 := hid (XR_0.out.keep hb0)
  have R0_1 := hid (R0_0.out.below hb0)
  have R1_1 := hid (R1_0.out.below hb0)
  have R2_1 := hid (R2_0.out.below hb0)
  have R3_1 := hid (R3_0.out.below hb0)
  have HB_1 : Hid (Below w.heap.size w w0) := HB_0.out.trans (hb0.mono HB_0.out.size)
  have ltA := XA_1.out.lt
  have cA0 := XA_1.out.cell 0 _ rfl
  have cA1 := XA_1.out.cell 1 _ rfl
  have cA2 := XA_1.out.cell 2 _ rfl
  have ltB := XB_1.out.lt
  have cB0 := XB_1.out.cell 0 _ rfl
  have cB1 := XB_1.out.cell 1 _ rfl
  have cB2 := XB_1.out.cell 2 _ rfl
  have ltR := XR_1.out.lt
  have cR0 := XR_1.out.cell 0 _ rfl
  have zR0 := XR_1.out.frozen 0
  have cR1 := XR_1.out.cell 1 _ rfl
  have zR1 := XR_1.out.frozen 1
  have cR2 := XR_1.out.cell 2 _ rfl
  have zR2 := XR_1.out.frozen 2
  have Rl_1 := hid hr0
  have lenl := hr0.len
  have bdl : ln ≤ 20000 := by rw [← lenl]; exact Nat.le_trans (prod_len len0 len3) (by omega)
  clear hb0 hr0
  have YA_1 := hid (bx_past XA_1.out (.cells #[.slice lo ln lc] 88))
  have YB_1 := hid (bx_past XB_1.out (.cells #[.slice lo ln lc] 88))
  have YR_1 := hid (bx_past XR_1.out (.cells #[.slice lo ln lc] 88))
  have Yl_1 := hid (bx_new w0 #[.slice lo ln lc] 88)
  have Q0_1 := hid (R0_1.out.alloc (.cells #[.slice lo ln lc] 88))
  have Q1_1 := hid (R1_1.out.alloc (.cells #[.slice lo ln lc] 88))
  have Q2_1 := hid (R2_1.out.alloc (.cells #[.slice lo ln lc] 88))
  have Q3_1 := hid (R3_1.out.alloc (.cells #[.slice lo ln lc] 88))
  have Ql_1 := hid (Rl_1.out.alloc (.cells #[.slice lo ln lc] 88))
  have HC_1 : Hid (Below w.heap.size w (w0.alloc (.cells #[.slice lo ln lc] 88))) := HB_1.out.alloc HB_1.out.size (.cells #[.slice lo ln lc] 88)
  go_wp2_with fail
  refine (mul_any co bo p capc m capb (y.num.natAbs) (x.den) _ Q2_1.out Q1_1.out (by omega)).mono ?_
  rintro e1 w1 ⟨v1, rfl, ⟨ro, rn, rc, rfl, hr1⟩, hb1⟩
  have XA_2 := hid (YA_1.out.keep hb1)
  have XB_2 := hid (YB_1.out.keep hb1)
  have XR_2 := hid (YR_1.out.keep hb1)
  have Xl_2 := hid (Yl_1.out.keep hb1)
  have R0_2 := hid (Q0_1.out.below hb1)
  have R1_2 := hid (Q1_1.out.below hb1)
  have R2_2 := hid (Q2_1.out.below hb1)
  have R3_2 := hid (Q3_1.out.below hb1)
  have Rl_2 := hid (Ql_1.out.below hb1)
  have HB_2 : Hid (Below w.heap.size w w1) := HC_1.out.trans (hb1.mono HC_1.out.size)
  clear ltA cA0 cA1 cA2 ltB cB0 cB1 cB2 ltR cR0 zR0 cR1 zR1 cR2 zR2
  have ltA := XA_2.out.lt
  have cA0 := XA_2.out.cell 0 _ rfl
  have cA1 := XA_2.out.cell 1 _ rfl
  have cA2 := XA_2.out.cell 2 _ rfl
  have ltB := XB_2.out.lt
  have cB0 := XB_2.out.cell 0 _ rfl
  have cB1 := XB_2.out.cell 1 _ rfl
  have cB2 := XB_2.out.cell 2 _ rfl
  have ltR := XR_2.out.lt
  have cR0 := XR_2.out.cell 0 _ rfl
  have zR0 := XR_2.out.frozen 0
  have cR1 := XR_2.out.cell 1 _ rfl
  have zR1 := XR_2.out.frozen 1
  have cR2 := XR_2.out.cell 2 _ rfl
  have zR2 := XR_2.out.frozen 2
  have ltl := Xl_2.out.lt
  have cl0 := Xl_2.out.cell 0 _ rfl
  have Rr_2 := hid hr1
  have lenr := hr1.len
  have bdr : rn ≤ 20000 := by rw [← lenr]; exact Nat.le_trans (prod_len len2 len1) (by omega)
  clear hb1 hr1
  have YA_2 := hid (bx_past XA_2.out (.cells #[.slice ro rn rc] 88))
  have YB_2 := hid (bx_past XB_2.out (.cells #[.slice ro rn rc] 88))
  have YR_2 := hid (bx_past XR_2.out (.cells #[.slice ro rn rc] 88))
  have Yl_2 := hid (bx_past Xl_2.out (.cells #[.slice ro rn rc] 88))
  have Yr_2 := hid (bx_new w1 #[.slice ro rn rc] 88)
  have Q0_2 := hid (R0_2.out.alloc (.cells #[.slice ro rn rc] 88))
  have Q1_2 := hid (R1_2.out.alloc (.cells #[.slice ro rn rc] 88))
  have Q2_2 := hid (R2_2.out.alloc (.cells #[.slice ro rn rc] 88))
  have Q3_2 := hid (R3_2.out.alloc (.cells #[.slice ro rn rc] 88))
  have Ql_2 := hid (Rl_2.out.alloc (.cells #[.slice ro rn rc] 88))
  have Qr_2 := hid (Rr_2.out.alloc (.cells #[.slice ro rn rc] 88))
  have HC_2 : Hid (Below w.heap.size w (w1.alloc (.cells #[.slice ro rn rc] 88))) := HB_2.out.alloc HB_2.out.size (.cells #[.slice ro rn rc] 88)
  go_wp2_with fail
  refine (mul_any bo eo m capb q capd (x.den) (y.den) _ Q1_2.out Q3_2.out (by omega)).mono ?_
  rintro e2 w2 ⟨v2, rfl, ⟨ko, kn, kc, rfl, hr2⟩, hb2⟩
  have XA_3 := hid (YA_2.out.keep hb2)
  have XB_3 := hid (YB_2.out.keep hb2)
  have XR_3 := hid (YR_2.out.keep hb2)
  have Xl_3 := hid (Yl_2.out.keep hb2)
  have Xr_3 := hid (Yr_2.out.keep hb2)
  have R0_3 := hid (Q0_2.out.below hb2)
  have R1_3 := hid (Q1_2.out.below hb2)
  have R2_3 := hid (Q2_2.out.below hb2)
  have R3_3 := hid (Q3_2.out.below hb2)
  have Rl_3 := hid (Ql_2.out.below hb2)
  have Rr_3 := hid (Qr_2.out.below hb2)
  have HB_3 : Hid (Below w.heap.size w w2) := HC_2.out.trans (hb2.mono HC_2.out.size)
  clear ltA cA0 cA1 cA2 ltB cB0 cB1 cB2 ltR cR0 zR0 cR1 zR1 cR2 zR2 ltl cl0
  have ltA := XA_3.out.lt
  have cA0 := XA_3.out.cell 0 _ rfl
  have cA1 := XA_3.out.cell 1 _ rfl
  have cA2 := XA_3.out.cell 2 _ rfl
  have ltB := XB_3.out.lt
  have cB0 := XB_3.out.cell 0 _ rfl
  have cB1 := XB_3.out.cell 1 _ rfl
  have cB2 := XB_3.out.cell 2 _ rfl
  have ltR := XR_3.out.lt
  have cR0 := XR_3.out.cell 0 _ rfl
  have zR0 := XR_3.out.frozen 0
  have cR1 := XR_3.out.cell 1 _ rfl
  have zR1 := XR_3.out.frozen 1
  have cR2 := XR_3.out.cell 2 _ rfl
  have zR2 := XR_3.out.frozen 2
  have ltl := Xl_3.out.lt
  have cl0 := Xl_3.out.cell 0 _ rfl
  have ltr := Xr_3.out.lt
  have cr0 := Xr_3.out.cell 0 _ rfl
  have Rk_3 := hid hr2
  have lenk := hr2.len
  have bdk : kn ≤ 20000 := by rw [← lenk]; exact Nat.le_trans (prod_len len1 len3) (by omega)
  clear hb2 hr2
  have YA_3 := hid (bx_past XA_3.out (.cells #[.slice ko kn kc] 88))
  have YB_3 := hid (bx_past XB_3.out (.cells #[.slice ko kn kc] 88))
  have YR_3 := hid (bx_past XR_3.out (.cells #[.slice ko kn kc] 88))
  have Yl_3 := hid (bx_past Xl_3.out (.cells #[.slice ko kn kc] 88))
  have Yr_3 := hid (bx_past Xr_3.out (.cells #[.slice ko kn kc] 88))
  have Yk_3 := hid (bx_new w2 #[.slice ko kn kc] 88)
  have Q0_3 := hid (R0_3.out.alloc (.cells #[.slice ko kn kc] 88))
  have Q1_3 := hid (R1_3.out.alloc (.cells #[.slice ko kn kc] 88))
  have Q2_3 := hid (R2_3.out.alloc (.cells #[.slice ko kn kc] 88))
  have Q3_3 := hid (R3_3.out.alloc (.cells #[.slice ko kn kc] 88))
  have Ql_3 := hid (Rl_3.out.alloc (.cells #[.slice ko kn kc] 88))
  have Qr_3 := hid (Rr_3.out.alloc (.cells #[.slice ko kn kc] 88))
  have Qk_3 := hid (Rk_3.out.alloc (.cells #[.slice ko kn kc] 88))
  have HC_3 : Hid (Below w.heap.size w (w2.alloc (.cells #[.slice ko kn kc] 88))) := HB_3.out.alloc HB_3.out.size (.cells #[.slice ko kn kc] 88)
  go_wp2_with fail
  refine (compare_any lo ro ln lc rn rc (x.num.natAbs * y.den) (y.num.natAbs * x.den) _ Ql_3.out Qr_3.out (by omega) (by omega)).mono ?_
  rintro e3 w3 ⟨rfl, hb3⟩
  have XA_4 := hid (YA_3.out.keep hb3)
  have XB_4 := hid (YB_3.out.keep hb3)
  have XR_4 := hid (YR_3.out.keep hb3)
  have Xl_4 := hid (Yl_3.out.keep hb3)
  have Xr_4 := hid (Yr_3.out.keep hb3)
  have Xk_4 := hid (Yk_3.out.keep hb3)
  have R0_4 := hid (Q0_3.out.below hb3)
  have R1_4 := hid (Q1_3.out.below hb3)
  have R2_4 := hid (Q2_3.out.below hb3)
  have R3_4 := hid (Q3_3.out.below hb3)
  have Rl_4 := hid (Ql_3.out.below hb3)
  have Rr_4 := hid (Qr_3.out.below hb3)
  have Rk_4 := hid (Qk_3.out.below hb3)
  have HB_4 : Hid (Below w.heap.size w w3) := HC_3.out.trans (hb3.mono HC_3.out.size)
  clear ltA cA0 cA1 cA2 ltB cB0 cB1 cB2 ltR cR0 zR0 cR1 zR1 cR2 zR2 ltl cl0 ltr cr0
  have ltA := XA_4.out.lt
  have cA0 := XA_4.out.cell 0 _ rfl
  have cA1 := XA_4.out.cell 1 _ rfl
  have cA2 := XA_4.out.cell 2 _ rfl
  have ltB := XB_4.out.lt
  have cB0 := XB_4.out.cell 0 _ rfl
  have cB1 := XB_4.out.cell 1 _ rfl
  have cB2 := XB_4.out.cell 2 _ rfl
  have ltR := XR_4.out.lt
  have cR0 := XR_4.out.cell 0 _ rfl
  have zR0 := XR_4.out.frozen 0
  have cR1 := XR_4.out.cell 1 _ rfl
  have zR1 := XR_4.out.frozen 1
  have cR2 := XR_4.out.cell 2 _ rfl
  have zR2 := XR_4.out.frozen 2
  have ltl := Xl_4.out.lt
  have cl0 := Xl_4.out.cell 0 _ rfl
  have ltr := Xr_4.out.lt
  have cr0 := Xr_4.out.cell 0 _ rfl
  have ltk := Xk_4.out.lt
  have ck0 := Xk_4.out.cell 0 _ rfl
  rw [hc.out]
  clear hb3
  go_wp2_with fail
  refine (sub_any ro lo rn rc ln lc (y.num.natAbs * x.den) (x.num.natAbs * y.den) _ Rr_4.out Rl_4.out (by omega) (by omega)).mono ?_
  rintro e4 w4 ⟨v4, rfl, ⟨so, sn, sc, rfl, hr4⟩, hb4⟩
  have XA_5 := hid (XA_4.out.keep hb4)
  have XB_5 := hid (XB_4.out.keep hb4)
  have XR_5 := hid (XR_4.out.keep hb4)
  have Xl_5 := hid (Xl_4.out.keep hb4)
  have Xr_5 := hid (Xr_4.out.keep hb4)
  have Xk_5 := hid (Xk_4.out.keep hb4)
  have R0_5 := hid (R0_4.out.below hb4)
  have R1_5 := hid (R1_4.out.below hb4)
  have R2_5 := hid (R2_4.out.below hb4)
  have R3_5 := hid (R3_4.out.below hb4)
  have Rl_5 := hid (Rl_4.out.below hb4)
  have Rr_5 := hid (Rr_4.out.below hb4)
  have Rk_5 := hid (Rk_4.out.below hb4)
  have HB_5 : Hid (Below w.heap.size w w4) := HB_4.out.trans (hb4.mono HB_4.out.size)
  clear ltA cA0 cA1 cA2 ltB cB0 cB1 cB2 ltR cR0 zR0 cR1 zR1 cR2 zR2 ltl cl0 ltr cr0 ltk ck0
  have ltA := XA_5.out.lt
  have cA0 := XA_5.out.cell 0 _ rfl
  have cA1 := XA_5.out.cell 1 _ rfl
  have cA2 := XA_5.out.cell 2 _ rfl
  have ltB := XB_5.out.lt
  have cB0 := XB_5.out.cell 0 _ rfl
  have cB1 := XB_5.out.cell 1 _ rfl
  have cB2 := XB_5.out.cell 2 _ rfl
  have ltR := XR_5.out.lt
  have cR0 := XR_5.out.cell 0 _ rfl
  have zR0 := XR_5.out.frozen 0
  have cR1 := XR_5.out.cell 1 _ rfl
  have zR1 := XR_5.out.frozen 1
  have cR2 := XR_5.out.cell 2 _ rfl
  have zR2 := XR_5.out.frozen 2
  have ltl := Xl_5.out.lt
  have cl0 := Xl_5.out.cell 0 _ rfl
  have ltr := Xr_5.out.lt
  have cr0 := Xr_5.out.cell 0 _ rfl
  have ltk := Xk_5.out.lt
  have ck0 := Xk_5.out.cell 0 _ rfl
  have Rs_5 := hid hr4
  have lens := hr4.len
  have bds : sn ≤ 20000 := by rw [← lens]; exact diff_len (by omega)
  clear hb4 hr4
  have YA_5 := hid (bx_past XA_5.out (.cells #[.slice so sn sc] 88))
  have YB_5 := hid (bx_past XB_5.out (.cells #[.slice so sn sc] 88))
  have YR_5 := hid (bx_past XR_5.out (.cells #[.slice so sn sc] 88))
  have Yl_5 := hid (bx_past Xl_5.out (.cells #[.slice so sn sc] 88))
  have Yr_5 := hid (bx_past Xr_5.out (.cells #[.slice so sn sc] 88))
  have Yk_5 := hid (bx_past Xk_5.out (.cells #[.slice so sn sc] 88))
  have Ys_5 := hid (bx_new w4 #[.slice so sn sc] 88)
  have Q0_5 := hid (R0_5.out.alloc (.cells #[.slice so sn sc] 88))
  have Q1_5 := hid (R1_5.out.alloc (.cells #[.slice so sn sc] 88))
  have Q2_5 := hid (R2_5.out.alloc (.cells #[.slice so sn sc] 88))
  have Q3_5 := hid (R3_5.out.alloc (.cells #[.slice so sn sc] 88))
  have Ql_5 := hid (Rl_5.out.alloc (.cells #[.slice so sn sc] 88))
  have Qr_5 := hid (Rr_5.out.alloc (.cells #[.slice so sn sc] 88))
  have Qk_5 := hid (Rk_5.out.alloc (.cells #[.slice so sn sc] 88))
  have Qs_5 := hid (Rs_5.out.alloc (.cells #[.slice so sn sc] 88))
  have HC_5 : Hid (Below w.heap.size w (w4.alloc (.cells #[.slice so sn sc] 88))) := HB_5.out.alloc HB_5.out.size (.cells #[.slice so sn sc] 88)
  go_wp2_with fail
  refine (lowest_any (negB y) so ko sn sc kn kc (y.num.natAbs * x.den - (x.num.natAbs * y.den)) (x.den * y.den) _ Qs_5.out Qk_5.out (by omega) (by omega) (Nat.mul_ne_zero x.den_nz y.den_nz)).mono ?_
  rintro e5 w5 ⟨v5, rfl, ⟨go, gn, gc, ho, hn, hc, rfl, hg, hh⟩, hb5⟩
  have XA_6 := hid (YA_5.out.keep hb5)
  have XB_6 := hid (YB_5.out.keep hb5)
  have XR_6 := hid (YR_5.out.keep hb5)
  have Xl_6 := hid (Yl_5.out.keep hb5)
  have Xr_6 := hid (Yr_5.out.keep hb5)
  have Xk_6 := hid (Yk_5.out.keep hb5)
  have Xs_6 := hid (Ys_5.out.keep hb5)
  have R0_6 := hid (Q0_5.out.below hb5)
  have R1_6 := hid (Q1_5.out.below hb5)
  have R2_6 := hid (Q2_5.out.below hb5)
  have R3_6 := hid (Q3_5.out.below hb5)
  have Rl_6 := hid (Ql_5.out.below hb5)
  have Rr_6 := hid (Qr_5.out.below hb5)
  have Rk_6 := hid (Qk_5.out.below hb5)
  have Rs_6 := hid (Qs_5.out.below hb5)
  have HB_6 : Hid (Below w.heap.size w w5) := HC_5.out.trans (hb5.mono HC_5.out.size)
  clear ltA cA0 cA1 cA2 ltB cB0 cB1 cB2 ltR cR0 zR0 cR1 zR1 cR2 zR2 ltl cl0 ltr cr0 ltk ck0
  have ltA := XA_6.out.lt
  have cA0 := XA_6.out.cell 0 _ rfl
  have cA1 := XA_6.out.cell 1 _ rfl
  have cA2 := XA_6.out.cell 2 _ rfl
  have ltB := XB_6.out.lt
  have cB0 := XB_6.out.cell 0 _ rfl
  have cB1 := XB_6.out.cell 1 _ rfl
  have cB2 := XB_6.out.cell 2 _ rfl
  have ltR := XR_6.out.lt
  have cR0 := XR_6.out.cell 0 _ rfl
  have zR0 := XR_6.out.frozen 0
  have cR1 := XR_6.out.cell 1 _ rfl
  have zR1 := XR_6.out.frozen 1
  have cR2 := XR_6.out.cell 2 _ rfl
  have zR2 := XR_6.out.frozen 2
  have ltl := Xl_6.out.lt
  have cl0 := Xl_6.out.cell 0 _ rfl
  have ltr := Xr_6.out.lt
  have cr0 := Xr_6.out.cell 0 _ rfl
  have ltk := Xk_6.out.lt
  have ck0 := Xk_6.out.cell 0 _ rfl
  have lts := Xs_6.out.lt
  have cs0 := Xs_6.out.cell 0 _ rfl
  have HG := hid hg
  have HH := hid hh
  clear hb5 hg hh
  go_wp2
  have Z := XR_6.out.put3 (.bool (negB (mkRat (sg (negB y) (y.num.natAbs * x.den - (x.num.natAbs * y.den))) (x.den * y.den)))) (.slice go gn gc) (.slice ho hn hc)
  have z0 := Z.cell 0 _ rfl
  have z1 := Z.cell 1 _ rfl
  have z2 := Z.cell 2 _ rfl
  unfold wput3 at z0 z1 z2
  refine bodyPost_ret (v := .agg #[.bool (negB (mkRat (sg (negB y) (y.num.natAbs * x.den - (x.num.natAbs * y.den))) (x.den * y.den))), .slice go gn gc, .slice ho hn hc]) (by simp [results, Tryz.results51, go_sem, z0, z1, z2]) rfl ⟨_, rfl, ?_, below_put3 HB_6.out (by omega) _ _ _⟩
  rw [add_sg, sg_more _ _ _ _ hne'.out (Nat.le_of_lt hlt'.out)]
  exact ⟨go, gn, gc, ho, hn, hc, rfl, HG.out.put3 XR_6.out (by decide) _ _ _, HH.out.put3 XR_6.out (by decide) _ _ _⟩

set_option maxHeartbeats 2000000 in
set_option maxRecDepth 20000 in
theorem radd_ge (ao bo co eo : Option Addr) (n capa m capb p capc q capd : Nat) (x y : Rat) (w : World) (h1 : Row w ao n capa (limbs x.num.natAbs)) (h2 : Row w bo m capb (limbs x.den)) (h3 : Row w co p capc (limbs y.num.natAbs)) (h4 : Row w eo q capd (limbs y.den)) (b1 : n ≤ 10000) (b2 : m ≤ 10000) (b3 : p ≤ 10000) (b4 : q ≤ 10000) (hne : negB x ≠ negB y) (hlt : (y.num.natAbs * x.den ≤ x.num.natAbs * y.den)) :
    Calls Tryz.prog 51 #[.agg #[.bool (negB x), .slice ao n capa, .slice bo m capb], .agg #[.bool (negB y), .slice co p capc, .slice eo q capd]] w fun e w' => ∃ v, e = .returned v ∧ Frac w' v (x + y) ∧ Below w.heap.size w w' := by
  have hs : (negB x == negB y) = false := by rw [beq_eq_false_iff_ne]; exact hne
  obtain ⟨C, hC0, hc⟩ : ∃ C : Int, 0 ≤ C ∧ Hid (cmp3 ((x.num.natAbs * y.den : Nat) : Int) ((y.num.natAbs * x.den : Nat) : Int) = C) := ⟨_, by unfold cmp3; rw [if_neg (by omega)]; split <;> omega, rfl⟩
  have hne' := hid hne
  have hlt' := hid hlt
  clear hne hlt
  obtain ⟨c1, c2, c3, c5⟩ := boxes3 w #[.bool (negB x), .slice ao n capa, .slice bo m capb] #[.bool (negB y), .slice co p capc, .slice eo q capd] #[.bool false, .slice none 0 0, .slice none 0 0] 90 90 90
  have R0_0 := hid (h1.below c5)
  have len0 := h1.len
  have R1_0 := hid (h2.below c5)
  have len1 := h2.len
  have R2_0 := hid (h3.below c5)
  have len2 := h3.len
  have R3_0 := hid (h4.below c5)
  have len3 := h4.len
  have XA_0 := hid c1
  have XB_0 := hid c2
  have XR_0 := hid c3
  have HB_0 := hid c5
  clear h1 h2 h3 h4 c1 c2 c3 c5
  go_enter Tryz.func51, Tryz.ntmps51
  go_wp2_with fail
  refine (mul_any ao eo n capa q capd (x.num.natAbs) (y.den) _ R0_0.out R3_0.out (by omega)).mono ?_
  rintro e0 w0 ⟨v0, rfl, ⟨lo, ln, lc, rfl, hr0⟩, hb0⟩
  have XA_1 := hid (XA_0.out.keep hb0)
  have XB_1 := hid (XB_0.out.keep hb0)
  have XR_1 := hid (XR_0.out.keep hb0)
  have R0_1 := hid (R0_0.out.below hb0)
  have R1_1 := hid (R1_0.out.below hb0)
  have R2_1 := hid (R2_0.out.below hb0)
  have R3_1 := hid (R3_0.out.below hb0)
  have HB_1 : Hid (Below w.heap.size w w0) := HB_0.out.trans (hb0.mono HB_0.out.size)
  have ltA := XA_1.out.lt
  have cA0 := XA_1.out.cell 0 _ rfl
  have cA1 := XA_1.out.cell 1 _ rfl
  have cA2 := XA_1.out.cell 2 _ rfl
  have ltB := XB_1.out.lt
  have cB0 := XB_1.out.cell 0 _ rfl
  have cB1 := XB_1.out.cell 1 _ rfl
  have cB2 := XB_1.out.cell 2 _ rfl
  have ltR := XR_1.out.lt
  have cR0 := XR_1.out.cell 0 _ rfl
  have zR0 := XR_1.out.frozen 0
  have cR1 := XR_1.out.cell 1 _ rfl
  have zR1 := XR_1.out.frozen 1
  have cR2 := XR_1.out.cell 2 _ rfl
  have zR2 := XR_1.out.frozen 2
  have Rl_1 := hid hr0
  have lenl := hr0.len
  have bdl : ln ≤ 20000 := by rw [← lenl]; exact Nat.le_trans (prod_len len0 len3) (by omega)
  clear hb0 hr0
  have YA_1 := hid (bx_past XA_1.out (.cells #[.slice lo ln lc] 88))
  have YB_1 := hid (bx_past XB_1.out (.cells #[.slice lo ln lc] 88))
  have YR_1 := hid (bx_past XR_1.out (.cells #[.slice lo ln lc] 88))
  have Yl_1 := hid (bx_new w0 #[.slice lo ln lc] 88)
  have Q0_1 := hid (R0_1.out.alloc (.cells #[.slice lo ln lc] 88))
  have Q1_1 := hid (R1_1.out.alloc (.cells #[.slice lo ln lc] 88))
  have Q2_1 := hid (R2_1.out.alloc (.cells #[.slice lo ln lc] 88))
  have Q3_1 := hid (R3_1.out.alloc (.cells #[.slice lo ln lc] 88))
  have Ql_1 := hid (Rl_1.out.alloc (.cells #[.slice lo ln lc] 88))
  have HC_1 : Hid (Below w.heap.size w (w0.alloc (.cells #[.slice lo ln lc] 88))) := HB_1.out.alloc HB_1.out.size (.cells #[.slice lo ln lc] 88)
  go_wp2_with fail
  refine (mul_any co bo p capc m capb (y.num.natAbs) (x.den) _ Q2_1.out Q1_1.out (by omega)).mono ?_
  rintro e1 w1 ⟨v1, rfl, ⟨ro, rn, rc, rfl, hr1⟩, hb1⟩
  have XA_2 := hid (YA_1.out.keep hb1)
  have XB_2 := hid (YB_1.out.keep hb1)
  have XR_2 := hid (YR_1.out.keep hb1)
  have Xl_2 := hid (Yl_1.out.keep hb1)
  have R0_2 := hid (Q0_1.out.below hb1)
  have R1_2 := hid (Q1_1.out.below hb1)
  have R2_2 := hid (Q2_1.out.below hb1)
  have R3_2 := hid (Q3_1.out.below hb1)
  have Rl_2 := hid (Ql_1.out.below hb1)
  have HB_2 : Hid (Below w.heap.size w w1) := HC_1.out.trans (hb1.mono HC_1.out.size)
  clear ltA cA0 cA1 cA2 ltB cB0 cB1 cB2 ltR cR0 zR0 cR1 zR1 cR2 zR2
  have ltA := XA_2.out.lt
  have cA0 := XA_2.out.cell 0 _ rfl
  have cA1 := XA_2.out.cell 1 _ rfl
  have cA2 := XA_2.out.cell 2 _ rfl
  have ltB := XB_2.out.lt
  have cB0 := XB_2.out.cell 0 _ rfl
  have cB1 := XB_2.out.cell 1 _ rfl
  have cB2 := XB_2.out.cell 2 _ rfl
  have ltR := XR_2.out.lt
  have cR0 := XR_2.out.cell 0 _ rfl
  have zR0 := XR_2.out.frozen 0
  have cR1 := XR_2.out.cell 1 _ rfl
  have zR1 := XR_2.out.frozen 1
  have cR2 := XR_2.out.cell 2 _ rfl
  have zR2 := XR_2.out.frozen 2
  have ltl := Xl_2.out.lt
  have cl0 := Xl_2.out.cell 0 _ rfl
  have Rr_2 := hid hr1
  have lenr := hr1.len
  have bdr : rn ≤ 20000 := by rw [← lenr]; exact Nat.le_trans (prod_len len2 len1) (by omega)
  clear hb1 hr1
  have YA_2 := hid (bx_past XA_2.out (.cells #[.slice ro rn rc] 88))
  have YB_2 := hid (bx_past XB_2.out (.cells #[.slice ro rn rc] 88))
  have YR_2 := hid (bx_past XR_2.out (.cells #[.slice ro rn rc] 88))
  have Yl_2 := hid (bx_past Xl_2.out (.cells #[.slice ro rn rc] 88))
  have Yr_2 := hid (bx_new w1 #[.slice ro rn rc] 88)
  have Q0_2 := hid (R0_2.out.alloc (.cells #[.slice ro rn rc] 88))
  have Q1_2 := hid (R1_2.out.alloc (.cells #[.slice ro rn rc] 88))
  have Q2_2 := hid (R2_2.out.alloc (.cells #[.slice ro rn rc] 88))
  have Q3_2 := hid (R3_2.out.alloc (.cells #[.slice ro rn rc] 88))
  have Ql_2 := hid (Rl_2.out.alloc (.cells #[.slice ro rn rc] 88))
  have Qr_2 := hid (Rr_2.out.alloc (.cells #[.slice ro rn rc] 88))
  have HC_2 : Hid (Below w.heap.size w (w1.alloc (.cells #[.slice ro rn rc] 88))) := HB_2.out.alloc HB_2.out.size (.cells #[.slice ro rn rc] 88)
  go_wp2_with fail
  refine (mul_any bo eo m capb q capd (x.den) (y.den) _ Q1_2.out Q3_2.out (by omega)).mono ?_
  rintro e2 w2 ⟨v2, rfl, ⟨ko, kn, kc, rfl, hr2⟩, hb2⟩
  have XA_3 := hid (YA_2.out.keep hb2)
  have XB_3 := hid (YB_2.out.keep hb2)
  have XR_3 := hid (YR_2.out.keep hb2)
  have Xl_3 := hid (Yl_2.out.keep hb2)
  have Xr_3 := hid (Yr_2.out.keep hb2)
  have R0_3 := hid (Q0_2.out.below hb2)
  have R1_3 := hid (Q1_2.out.below hb2)
  have R2_3 := hid (Q2_2.out.below hb2)
  have R3_3 := hid (Q3_2.out.below hb2)
  have Rl_3 := hid (Ql_2.out.below hb2)
  have Rr_3 := hid (Qr_2.out.below hb2)
  have HB_3 : Hid (Below w.heap.size w w2) := HC_2.out.trans (hb2.mono HC_2.out.size)
  clear ltA cA0 cA1 cA2 ltB cB0 cB1 cB2 ltR cR0 zR0 cR1 zR1 cR2 zR2 ltl cl0
  have ltA := XA_3.out.lt
  have cA0 := XA_3.out.cell 0 _ rfl
  have cA1 := XA_3.out.cell 1 _ rfl
  have cA2 := XA_3.out.cell 2 _ rfl
  have ltB := XB_3.out.lt
  have cB0 := XB_3.out.cell 0 _ rfl
  have cB1 := XB_3.out.cell 1 _ rfl
  have cB2 := XB_3.out.cell 2 _ rfl
  have ltR := XR_3.out.lt
  have cR0 := XR_3.out.cell 0 _ rfl
  have zR0 := XR_3.out.frozen 0
  have cR1 := XR_3.out.cell 1 _ rfl
  have zR1 := XR_3.out.frozen 1
  have cR2 := XR_3.out.cell 2 _ rfl
  have zR2 := XR_3.out.frozen 2
  have ltl := Xl_3.out.lt
  have cl0 := Xl_3.out.cell 0 _ rfl
  have ltr := Xr_3.out.lt
  have cr0 := Xr_3.out.cell 0 _ rfl
  have Rk_3 := hid hr2
  have lenk := hr2.len
  have bdk : kn ≤ 20000 := by rw [← lenk]; exact Nat.le_trans (prod_len len1 len3) (by omega)
  clear hb2 hr2
  have YA_3 := hid (bx_past XA_3.out (.cells #[.slice ko kn kc] 88))
  have YB_3 := hid (bx_past XB_3.out (.cells #[.slice ko kn kc] 88))
  have YR_3 := hid (bx_past XR_3.out (.cells #[.slice ko kn kc] 88))
  have Yl_3 := hid (bx_past Xl_3.out (.cells #[.slice ko kn kc] 88))
  have Yr_3 := hid (bx_past Xr_3.out (.cells #[.slice ko kn kc] 88))
  have Yk_3 := hid (bx_new w2 #[.slice ko kn kc] 88)
  have Q0_3 := hid (R0_3.out.alloc (.cells #[.slice ko kn kc] 88))
  have Q1_3 := hid (R1_3.out.alloc (.cells #[.slice ko kn kc] 88))
  have Q2_3 := hid (R2_3.out.alloc (.cells #[.slice ko kn kc] 88))
  have Q3_3 := hid (R3_3.out.alloc (.cells #[.slice ko kn kc] 88))
  have Ql_3 := hid (Rl_3.out.alloc (.cells #[.slice ko kn kc] 88))
  have Qr_3 := hid (Rr_3.out.alloc (.cells #[.slice ko kn kc] 88))
  have Qk_3 := hid (Rk_3.out.alloc (.cells #[.slice ko kn kc] 88))
  have HC_3 : Hid (Below w.heap.size w (w2.alloc (.cells #[.slice ko kn kc] 88))) := HB_3.out.alloc HB_3.out.size (.cells #[.slice ko kn kc] 88)
  go_wp2_with fail
  refine (compare_any lo ro ln lc rn rc (x.num.natAbs * y.den) (y.num.natAbs * x.den) _ Ql_3.out Qr_3.out (by omega) (by omega)).mono ?_
  rintro e3 w3 ⟨rfl, hb3⟩
  have XA_4 := hid (YA_3.out.keep hb3)
  have XB_4 := hid (YB_3.out.keep hb3)
  have XR_4 := hid (YR_3.out.keep hb3)
  have Xl_4 := hid (Yl_3.out.keep hb3)
  have Xr_4 := hid (Yr_3.out.keep hb3)
  have Xk_4 := hid (Yk_3.out.keep hb3)
  have R0_4 := hid (Q0_3.out.below hb3)
  have R1_4 := hid (Q1_3.out.below hb3)
  have R2_4 := hid (Q2_3.out.below hb3)
  have R3_4 := hid (Q3_3.out.below hb3)
  have Rl_4 := hid (Ql_3.out.below hb3)
  have Rr_4 := hid (Qr_3.out.below hb3)
  have Rk_4 := hid (Qk_3.out.below hb3)
  have HB_4 : Hid (Below w.heap.size w w3) := HC_3.out.trans (hb3.mono HC_3.out.size)
  clear ltA cA0 cA1 cA2 ltB cB0 cB1 cB2 ltR cR0 zR0 cR1 zR1 cR2 zR2 ltl cl0 ltr cr0
  have ltA := XA_4.out.lt
  have cA0 := XA_4.out.cell 0 _ rfl
  have cA1 := XA_4.out.cell 1 _ rfl
  have cA2 := XA_4.out.cell 2 _ rfl
  have ltB := XB_4.out.lt
  have cB0 := XB_4.out.cell 0 _ rfl
  have cB1 := XB_4.out.cell 1 _ rfl
  have cB2 := XB_4.out.cell 2 _ rfl
  have ltR := XR_4.out.lt
  have cR0 := XR_4.out.cell 0 _ rfl
  have zR0 := XR_4.out.frozen 0
  have cR1 := XR_4.out.cell 1 _ rfl
  have zR1 := XR_4.out.frozen 1
  have cR2 := XR_4.out.cell 2 _ rfl
  have zR2 := XR_4.out.frozen 2
  have ltl := Xl_4.out.lt
  have cl0 := Xl_4.out.cell 0 _ rfl
  have ltr := Xr_4.out.lt
  have cr0 := Xr_4.out.cell 0 _ rfl
  have ltk := Xk_4.out.lt
  have ck0 := Xk_4.out.cell 0 _ rfl
  rw [hc.out]
  clear hb3
  go_wp2_with fail
  refine (sub_any lo ro ln lc rn rc (x.num.natAbs * y.den) (y.num.natAbs * x.den) _ Rl_4.out Rr_4.out (by omega) (by omega)).mono ?_
  rintro e4 w4 ⟨v4, rfl, ⟨so, sn, sc, rfl, hr4⟩, hb4⟩
  have XA_5 := hid (XA_4.out.keep hb4)
  have XB_5 := hid (XB_4.out.keep hb4)
  have XR_5 := hid (XR_4.out.keep hb4)
  have Xl_5 := hid (Xl_4.out.keep hb4)
  have Xr_5 := hid (Xr_4.out.keep hb4)
  have Xk_5 := hid (Xk_4.out.keep hb4)
  have R0_5 := hid (R0_4.out.below hb4)
  have R1_5 := hid (R1_4.out.below hb4)
  have R2_5 := hid (R2_4.out.below hb4)
  have R3_5 := hid (R3_4.out.below hb4)
  have Rl_5 := hid (Rl_4.out.below hb4)
  have Rr_5 := hid (Rr_4.out.below hb4)
  have Rk_5 := hid (Rk_4.out.below hb4)
  have HB_5 : Hid (Below w.heap.size w w4) := HB_4.out.trans (hb4.mono HB_4.out.size)
  clear ltA cA0 cA1 cA2 ltB cB0 cB1 cB2 ltR cR0 zR0 cR1 zR1 cR2 zR2 ltl cl0 ltr cr0 ltk ck0
  have ltA := XA_5.out.lt
  have cA0 := XA_5.out.cell 0 _ rfl
  have cA1 := XA_5.out.cell 1 _ rfl
  have cA2 := XA_5.out.cell 2 _ rfl
  have ltB := XB_5.out.lt
  have cB0 := XB_5.out.cell 0 _ rfl
  have cB1 := XB_5.out.cell 1 _ rfl
  have cB2 := XB_5.out.cell 2 _ rfl
  have ltR := XR_5.out.lt
  have cR0 := XR_5.out.cell 0 _ rfl
  have zR0 := XR_5.out.frozen 0
  have cR1 := XR_5.out.cell 1 _ rfl
  have zR1 := XR_5.out.frozen 1
  have cR2 := XR_5.out.cell 2 _ rfl
  have zR2 := XR_5.out.frozen 2
  have ltl := Xl_5.out.lt
  have cl0 := Xl_5.out.cell 0 _ rfl
  have ltr := Xr_5.out.lt
  have cr0 := Xr_5.out.cell 0 _ rfl
  have ltk := Xk_5.out.lt
  have ck0 := Xk_5.out.cell 0 _ rfl
  have Rs_5 := hid hr4
  have lens := hr4.len
  have bds : sn ≤ 20000 := by rw [← lens]; exact diff_len (by omega)
  clear hb4 hr4
  have YA_5 := hid (bx_past XA_5.out (.cells #[.slice so sn sc] 88))
  have YB_5 := hid (bx_past XB_5.out (.cells #[.slice so sn sc] 88))
  have YR_5 := hid (bx_past XR_5.out (.cells #[.slice so sn sc] 88))
  have Yl_5 := hid (bx_past Xl_5.out (.cells #[.slice so sn sc] 88))
  have Yr_5 := hid (bx_past Xr_5.out (.cells #[.slice so sn sc] 88))
  have Yk_5 := hid (bx_past Xk_5.out (.cells #[.slice so sn sc] 88))
  have Ys_5 := hid (bx_new w4 #[.slice so sn sc] 88)
  have Q0_5 := hid (R0_5.out.alloc (.cells #[.slice so sn sc] 88))
  have Q1_5 := hid (R1_5.out.alloc (.cells #[.slice so sn sc] 88))
  have Q2_5 := hid (R2_5.out.alloc (.cells #[.slice so sn sc] 88))
  have Q3_5 := hid (R3_5.out.alloc (.cells #[.slice so sn sc] 88))
  have Ql_5 := hid (Rl_5.out.alloc (.cells #[.slice so sn sc] 88))
  have Qr_5 := hid (Rr_5.out.alloc (.cells #[.slice so sn sc] 88))
  have Qk_5 := hid (Rk_5.out.alloc (.cells #[.slice so sn sc] 88))
  have Qs_5 := hid (Rs_5.out.alloc (.cells #[.slice so sn sc] 88))
  have HC_5 : Hid (Below w.heap.size w (w4.alloc (.cells #[.slice so sn sc] 88))) := HB_5.out.alloc HB_5.out.size (.cells #[.slice so sn sc] 88)
  go_wp2_with fail
  refine (lowest_any (negB x) so ko sn sc kn kc (x.num.natAbs * y.den - y.num.natAbs * x.den) (x.den * y.den) _ Qs_5.out Qk_5.out (by omega) (by omega) (Nat.mul_ne_zero x.den_nz y.den_nz)).mono ?_
  rintro e5 w5 ⟨v5, rfl, ⟨go, gn, gc, ho, hn, hc, rfl, hg, hh⟩, hb5⟩
  have XA_6 := hid (YA_5.out.keep hb5)
  have XB_6 := hid (YB_5.out.keep hb5)
  have XR_6 := hid (YR_5.out.keep hb5)
  have Xl_6 := hid (Yl_5.out.keep hb5)
  have Xr_6 := hid (Yr_5.out.keep hb5)
  have Xk_6 := hid (Yk_5.out.keep hb5)
  have Xs_6 := hid (Ys_5.out.keep hb5)
  have R0_6 := hid (Q0_5.out.below hb5)
  have R1_6 := hid (Q1_5.out.below hb5)
  have R2_6 := hid (Q2_5.out.below hb5)
  have R3_6 := hid (Q3_5.out.below hb5)
  have Rl_6 := hid (Ql_5.out.below hb5)
  have Rr_6 := hid (Qr_5.out.below hb5)
  have Rk_6 := hid (Qk_5.out.below hb5)
  have Rs_6 := hid (Qs_5.out.below hb5)
  have HB_6 : Hid (Below w.heap.size w w5) := HC_5.out.trans (hb5.mono HC_5.out.size)
  clear ltA cA0 cA1 cA2 ltB cB0 cB1 cB2 ltR cR0 zR0 cR1 zR1 cR2 zR2 ltl cl0 ltr cr0 ltk ck0
  have ltA := XA_6.out.lt
  have cA0 := XA_6.out.cell 0 _ rfl
  have cA1 := XA_6.out.cell 1 _ rfl
  have cA2 := XA_6.out.cell 2 _ rfl
  have ltB := XB_6.out.lt
  have cB0 := XB_6.out.cell 0 _ rfl
  have cB1 := XB_6.out.cell 1 _ rfl
  have cB2 := XB_6.out.cell 2 _ rfl
  have ltR := XR_6.out.lt
  have cR0 := XR_6.out.cell 0 _ rfl
  have zR0 := XR_6.out.frozen 0
  have cR1 := XR_6.out.cell 1 _ rfl
  have zR1 := XR_6.out.frozen 1
  have cR2 := XR_6.out.cell 2 _ rfl
  have zR2 := XR_6.out.frozen 2
  have ltl := Xl_6.out.lt
  have cl0 := Xl_6.out.cell 0 _ rfl
  have ltr := Xr_6.out.lt
  have cr0 := Xr_6.out.cell 0 _ rfl
  have ltk := Xk_6.out.lt
  have ck0 := Xk_6.out.cell 0 _ rfl
  have lts := Xs_6.out.lt
  have cs0 := Xs_6.out.cell 0 _ rfl
  have HG := hid hg
  have HH := hid hh
  clear hb5 hg hh
  go_wp2
  have Z := XR_6.out.put3 (.bool (negB (mkRat (sg (negB x) (x.num.natAbs * y.den - y.num.natAbs * x.den)) (x.den * y.den)))) (.slice go gn gc) (.slice ho hn hc)
  have z0 := Z.cell 0 _ rfl
  have z1 := Z.cell 1 _ rfl
  have z2 := Z.cell 2 _ rfl
  unfold wput3 at z0 z1 z2
  refine bodyPost_ret (v := .agg #[.bool (negB (mkRat (sg (negB x) (x.num.natAbs * y.den - y.num.natAbs * x.den)) (x.den * y.den))), .slice go gn gc, .slice ho hn hc]) (by simp [results, Tryz.results51, go_sem, z0, z1, z2]) rfl ⟨_, rfl, ?_, below_put3 HB_6.out (by omega) _ _ _⟩
  rw [add_sg, sg_less _ _ _ _ hne'.out hlt'.out]
  exact ⟨go, gn, gc, ho, hn, hc, rfl, HG.out.put3 XR_6.out (by decide) _ _ _, HH.out.put3 XR_6.out (by decide) _ _ _⟩

theorem radd_any (ao bo co eo : Option Addr) (n capa m capb p capc q capd : Nat) (x y : Rat) (w : World) (h1 : Row w ao n capa (limbs x.num.natAbs)) (h2 : Row w bo m capb (limbs x.den)) (h3 : Row w co p capc (limbs y.num.natAbs)) (h4 : Row w eo q capd (limbs y.den)) (b1 : n ≤ 10000) (b2 : m ≤ 10000) (b3 : p ≤ 10000) (b4 : q ≤ 10000) :
    Calls Tryz.prog 51 #[.agg #[.bool (negB x), .slice ao n capa, .slice bo m capb], .agg #[.bool (negB y), .slice co p capc, .slice eo q capd]] w fun e w' => ∃ v, e = .returned v ∧ Frac w' v (x + y) ∧ Below w.heap.size w w' := by
  by_cases he : negB x = negB y
  · exact radd_eq ao bo co eo n capa m capb p capc q capd x y w h1 h2 h3 h4 b1 b2 b3 b4 he
  · by_cases hl : x.num.natAbs * y.den < y.num.natAbs * x.den
    · exact radd_lt ao bo co eo n capa m capb p capc q capd x y w h1 h2 h3 h4 b1 b2 b3 b4 he hl
    · exact radd_ge ao bo co eo n capa m capb p capc q capd x y w h1 h2 h3 h4 b1 b2 b3 b4 he (by omega)

end Go.Proofs.YtigokanoflkinaaGreatDoor

/- ratio.Multiply, Divide, Compare: of any two fractions. (Laid by mkratc.py.) -/
namespace Go.Proofs.YtigokanoflkinaaGreatDoor
set_option linter.unusedSimpArgs false
set_option linter.unusedVariables false
open Go.RowKit Por

set_option maxHeartbeats 2000000 in
set_option maxRecDepth 20000 in
theorem rmul_any (ao bo co eo : Option Addr) (n capa m capb p capc q capd : Nat) (x y : Rat) (w : World) (h1 : Row w ao n capa (limbs x.num.natAbs)) (h2 : Row w bo m capb (limbs x.den)) (h3 : Row w co p capc (limbs y.num.natAbs)) (h4 : Row w eo q capd (limbs y.den)) (b1 : n ≤ 10000) (b2 : m ≤ 10000) (b3 : p ≤ 10000) (b4 : q ≤ 10000) :
    Calls Tryz.prog 53 #[.agg #[.bool (negB x), .slice ao n capa, .slice bo m capb], .agg #[.bool (negB y), .slice co p capc, .slice eo q capd]] w fun e w' => ∃ v, e = .returned v ∧ Frac w' v (x * y) ∧ Below w.heap.size w w' := by
  obtain ⟨c1, c2, c3, c5⟩ := boxes3 w #[.bool (negB x), .slice ao n capa, .slice bo m capb] #[.bool (negB y), .slice co p capc, .slice eo q capd] #[.bool false, .slice none 0 0, .slice none 0 0] 90 90 90
  have R0_0 := hid (h1.below c5)
  have len0 := h1.len
  have R1_0 := hid (h2.below c5)
  have len1 := h2.len
  have R2_0 := hid (h3.below c5)
  have len2 := h3.len
  have R3_0 := hid (h4.below c5)
  have len3 := h4.len
  have XA_0 := hid c1
  have XB_0 := hid c2
  have XR_0 := hid c3
  have HB_0 := hid c5
  clear h1 h2 h3 h4 c1 c2 c3 c5
  go_enter Tryz.func53, Tryz.ntmps53
  go_wp2_with fail
  refine (mul_any ao co n capa p capc (x.num.natAbs) (y.num.natAbs) _ R0_0.out R2_0.out (by omega)).mono ?_
  rintro e0 w0 ⟨v0, rfl, ⟨to, tn, tc, rfl, hr0⟩, hb0⟩
  have XA_1 := hid (XA_0.out.keep hb0)
  have XB_1 := hid (XB_0.out.keep hb0)
  have XR_1 := hid (XR_0.out.keep hb0)
  have R0_1 := hid (R0_0.out.below hb0)
  have R1_1 := hid (R1_0.out.below hb0)
  have R2_1 := hid (R2_0.out.below hb0)
  have R3_1 := hid (R3_0.out.below hb0)
  have HB_1 : Hid (Below w.heap.size w w0) := HB_0.out.trans (hb0.mono HB_0.out.size)
  have ltA := XA_1.out.lt
  have cA0 := XA_1.out.cell 0 _ rfl
  have cA1 := XA_1.out.cell 1 _ rfl
  have cA2 := XA_1.out.cell 2 _ rfl
  have ltB := XB_1.out.lt
  have cB0 := XB_1.out.cell 0 _ rfl
  have cB1 := XB_1.out.cell 1 _ rfl
  have cB2 := XB_1.out.cell 2 _ rfl
  have ltR := XR_1.out.lt
  have cR0 := XR_1.out.cell 0 _ rfl
  have zR0 := XR_1.out.frozen 0
  have cR1 := XR_1.out.cell 1 _ rfl
  have zR1 := XR_1.out.frozen 1
  have cR2 := XR_1.out.cell 2 _ rfl
  have zR2 := XR_1.out.frozen 2
  have Rt_1 := hid hr0
  have lent := hr0.len
  have bdt : tn ≤ 20000 := by rw [← lent]; exact Nat.le_trans (prod_len len0 len2) (by omega)
  clear hb0 hr0
  have YA_1 := hid (bx_past XA_1.out (.cells #[.slice to tn tc] 88))
  have YB_1 := hid (bx_past XB_1.out (.cells #[.slice to tn tc] 88))
  have YR_1 := hid (bx_past XR_1.out (.cells #[.slice to tn tc] 88))
  have Yt_1 := hid (bx_new w0 #[.slice to tn tc] 88)
  have Q0_1 := hid (R0_1.out.alloc (.cells #[.slice to tn tc] 88))
  have Q1_1 := hid (R1_1.out.alloc (.cells #[.slice to tn tc] 88))
  have Q2_1 := hid (R2_1.out.alloc (.cells #[.slice to tn tc] 88))
  have Q3_1 := hid (R3_1.out.alloc (.cells #[.slice to tn tc] 88))
  have Qt_1 := hid (Rt_1.out.alloc (.cells #[.slice to tn tc] 88))
  have HC_1 : Hid (Below w.heap.size w (w0.alloc (.cells #[.slice to tn tc] 88))) := HB_1.out.alloc HB_1.out.size (.cells #[.slice to tn tc] 88)
  go_wp2_with fail
  refine (mul_any bo eo m capb q capd (x.den) (y.den) _ Q1_1.out Q3_1.out (by omega)).mono ?_
  rintro e1 w1 ⟨v1, rfl, ⟨ko, kn, kc, rfl, hr1⟩, hb1⟩
  have XA_2 := hid (YA_1.out.keep hb1)
  have XB_2 := hid (YB_1.out.keep hb1)
  have XR_2 := hid (YR_1.out.keep hb1)
  have Xt_2 := hid (Yt_1.out.keep hb1)
  have R0_2 := hid (Q0_1.out.below hb1)
  have R1_2 := hid (Q1_1.out.below hb1)
  have R2_2 := hid (Q2_1.out.below hb1)
  have R3_2 := hid (Q3_1.out.below hb1)
  have Rt_2 := hid (Qt_1.out.below hb1)
  have HB_2 : Hid (Below w.heap.size w w1) := HC_1.out.trans (hb1.mono HC_1.out.size)
  clear ltA cA0 cA1 cA2 ltB cB0 cB1 cB2 ltR cR0 zR0 cR1 zR1 cR2 zR2
  have ltA := XA_2.out.lt
  have cA0 := XA_2.out.cell 0 _ rfl
  have cA1 := XA_2.out.cell 1 _ rfl
  have cA2 := XA_2.out.cell 2 _ rfl
  have ltB := XB_2.out.lt
  have cB0 := XB_2.out.cell 0 _ rfl
  have cB1 := XB_2.out.cell 1 _ rfl
  have cB2 := XB_2.out.cell 2 _ rfl
  have ltR := XR_2.out.lt
  have cR0 := XR_2.out.cell 0 _ rfl
  have zR0 := XR_2.out.frozen 0
  have cR1 := XR_2.out.cell 1 _ rfl
  have zR1 := XR_2.out.frozen 1
  have cR2 := XR_2.out.cell 2 _ rfl
  have zR2 := XR_2.out.frozen 2
  have ltt := Xt_2.out.lt
  have ct0 := Xt_2.out.cell 0 _ rfl
  have Rk_2 := hid hr1
  have lenk := hr1.len
  have bdk : kn ≤ 20000 := by rw [← lenk]; exact Nat.le_trans (prod_len len1 len3) (by omega)
  clear hb1 hr1
  have YA_2 := hid (bx_past XA_2.out (.cells #[.slice ko kn kc] 88))
  have YB_2 := hid (bx_past XB_2.out (.cells #[.slice ko kn kc] 88))
  have YR_2 := hid (bx_past XR_2.out (.cells #[.slice ko kn kc] 88))
  have Yt_2 := hid (bx_past Xt_2.out (.cells #[.slice ko kn kc] 88))
  have Yk_2 := hid (bx_new w1 #[.slice ko kn kc] 88)
  have Q0_2 := hid (R0_2.out.alloc (.cells #[.slice ko kn kc] 88))
  have Q1_2 := hid (R1_2.out.alloc (.cells #[.slice ko kn kc] 88))
  have Q2_2 := hid (R2_2.out.alloc (.cells #[.slice ko kn kc] 88))
  have Q3_2 := hid (R3_2.out.alloc (.cells #[.slice ko kn kc] 88))
  have Qt_2 := hid (Rt_2.out.alloc (.cells #[.slice ko kn kc] 88))
  have Qk_2 := hid (Rk_2.out.alloc (.cells #[.slice ko kn kc] 88))
  have HC_2 : Hid (Below w.heap.size w (w1.alloc (.cells #[.slice ko kn kc] 88))) := HB_2.out.alloc HB_2.out.size (.cells #[.slice ko kn kc] 88)
  go_wp2_with fail
  refine (lowest_any (negB x != negB y) to ko tn tc kn kc (x.num.natAbs * y.num.natAbs) (x.den * y.den) _ Qt_2.out Qk_2.out (by omega) (by omega) (Nat.mul_ne_zero x.den_nz y.den_nz)).mono ?_
  rintro e2 w2 ⟨v2, rfl, ⟨go, gn, gc, ho, hn, hc, rfl, hg, hh⟩, hb2⟩
  have XA_3 := hid (YA_2.out.keep hb2)
  have XB_3 := hid (YB_2.out.keep hb2)
  have XR_3 := hid (YR_2.out.keep hb2)
  have Xt_3 := hid (Yt_2.out.keep hb2)
  have Xk_3 := hid (Yk_2.out.keep hb2)
  have R0_3 := hid (Q0_2.out.below hb2)
  have R1_3 := hid (Q1_2.out.below hb2)
  have R2_3 := hid (Q2_2.out.below hb2)
  have R3_3 := hid (Q3_2.out.below hb2)
  have Rt_3 := hid (Qt_2.out.below hb2)
  have Rk_3 := hid (Qk_2.out.below hb2)
  have HB_3 : Hid (Below w.heap.size w w2) := HC_2.out.trans (hb2.mono HC_2.out.size)
  clear ltA cA0 cA1 cA2 ltB cB0 cB1 cB2 ltR cR0 zR0 cR1 zR1 cR2 zR2 ltt ct0
  have ltA := XA_3.out.lt
  have cA0 := XA_3.out.cell 0 _ rfl
  have cA1 := XA_3.out.cell 1 _ rfl
  have cA2 := XA_3.out.cell 2 _ rfl
  have ltB := XB_3.out.lt
  have cB0 := XB_3.out.cell 0 _ rfl
  have cB1 := XB_3.out.cell 1 _ rfl
  have cB2 := XB_3.out.cell 2 _ rfl
  have ltR := XR_3.out.lt
  have cR0 := XR_3.out.cell 0 _ rfl
  have zR0 := XR_3.out.frozen 0
  have cR1 := XR_3.out.cell 1 _ rfl
  have zR1 := XR_3.out.frozen 1
  have cR2 := XR_3.out.cell 2 _ rfl
  have zR2 := XR_3.out.frozen 2
  have ltt := Xt_3.out.lt
  have ct0 := Xt_3.out.cell 0 _ rfl
  have ltk := Xk_3.out.lt
  have ck0 := Xk_3.out.cell 0 _ rfl
  have HG := hid hg
  have HH := hid hh
  clear hb2 hg hh
  go_wp2
  have Z := XR_3.out.put3 (.bool (negB (mkRat (sg (negB x != negB y) (x.num.natAbs * y.num.natAbs)) (x.den * y.den)))) (.slice go gn gc) (.slice ho hn hc)
  have z0 := Z.cell 0 _ rfl
  have z1 := Z.cell 1 _ rfl
  have z2 := Z.cell 2 _ rfl
  unfold wput3 at z0 z1 z2
  refine bodyPost_ret (v := .agg #[.bool (negB (mkRat (sg (negB x != negB y) (x.num.natAbs * y.num.natAbs)) (x.den * y.den))), .slice go gn gc, .slice ho hn hc]) (by simp [results, Tryz.results53, go_sem, z0, z1, z2]) rfl ⟨_, rfl, ?_, below_put3 HB_3.out (by omega) _ _ _⟩
  rw [mul_sg]
  exact ⟨go, gn, gc, ho, hn, hc, rfl, HG.out.put3 XR_3.out (by decide) _ _ _, HH.out.put3 XR_3.out (by decide) _ _ _⟩

set_option maxHeartbeats 2000000 in
set_option maxRecDepth 20000 in
theorem rdiv_no (ao bo co eo : Option Addr) (n capa m capb p capc q capd : Nat) (x y : Rat) (w : World) (h1 : Row w ao n capa (limbs x.num.natAbs)) (h2 : Row w bo m capb (limbs x.den)) (h3 : Row w co p capc (limbs y.num.natAbs)) (h4 : Row w eo q capd (limbs y.den)) (b1 : n ≤ 10000) (b2 : m ≤ 10000) (b3 : p ≤ 10000) (b4 : q ≤ 10000) (hz : isZ y.num.natAbs = true) :
    Calls Tryz.prog 99 #[.agg #[.bool (negB x), .slice ao n capa, .slice bo m capb], .agg #[.bool (negB y), .slice co p capc, .slice eo q capd]] w fun e w' => e = .returned (.tuple #[.agg #[.bool false, .slice none 0 0, .slice none 0 0], .bool false]) ∧ Below w.heap.size w w' := by
  obtain ⟨c1, c2, c3, c5⟩ := boxes3 w #[.bool (negB x), .slice ao n capa, .slice bo m capb] #[.bool (negB y), .slice co p capc, .slice eo q capd] #[.bool false, .slice none 0 0, .slice none 0 0] 90 90 90
  have R0_0 := hid (h1.below c5)
  have len0 := h1.len
  have R1_0 := hid (h2.below c5)
  have len1 := h2.len
  have R2_0 := hid (h3.below c5)
  have len2 := h3.len
  have R3_0 := hid (h4.below c5)
  have len3 := h4.len
  have XA_0 := hid c1
  have XB_0 := hid c2
  have XR_0 := hid c3
  have HB_0 := hid c5
  clear h1 h2 h3 h4 c1 c2 c3 c5
  go_enter Tryz.func99, Tryz.ntmps99
  go_wp2_with fail
  refine (isZero_any co p capc y.num.natAbs _ R2_0.out (by omega)).mono ?_
  rintro e0 w0 ⟨rfl, hb0⟩
  have XA_1 := hid (XA_0.out.keep hb0)
  have XB_1 := hid (XB_0.out.keep hb0)
  have XR_1 := hid (XR_0.out.keep hb0)
  have R0_1 := hid (R0_0.out.below hb0)
  have R1_1 := hid (R1_0.out.below hb0)
  have R2_1 := hid (R2_0.out.below hb0)
  have R3_1 := hid (R3_0.out.below hb0)
  have HB_1 : Hid (Below w.heap.size w w0) := HB_0.out.trans (hb0.mono HB_0.out.size)
  have ltA := XA_1.out.lt
  have cA0 := XA_1.out.cell 0 _ rfl
  have cA1 := XA_1.out.cell 1 _ rfl
  have cA2 := XA_1.out.cell 2 _ rfl
  have ltB := XB_1.out.lt
  have cB0 := XB_1.out.cell 0 _ rfl
  have cB1 := XB_1.out.cell 1 _ rfl
  have cB2 := XB_1.out.cell 2 _ rfl
  have ltR := XR_1.out.lt
  have cR0 := XR_1.out.cell 0 _ rfl
  have zR0 := XR_1.out.frozen 0
  have cR1 := XR_1.out.cell 1 _ rfl
  have zR1 := XR_1.out.frozen 1
  have cR2 := XR_1.out.cell 2 _ rfl
  have zR2 := XR_1.out.frozen 2
  clear hb0
  go_wp2
  have Z := XR_1.out.put3 (.bool false) (.slice none 0 0) (.slice none 0 0)
  have z0 := Z.cell 0 _ rfl
  have z1 := Z.cell 1 _ rfl
  have z2 := Z.cell 2 _ rfl
  unfold wput3 at z0 z1 z2
  exact bodyPost_ret (v := .tuple #[.agg #[.bool false, .slice none 0 0, .slice none 0 0], .bool false]) (by simp [results, Tryz.results99, go_sem, z0, z1, z2]) rfl ⟨rfl, below_put3 HB_1.out (by omega) _ _ _⟩

set_option maxHeartbeats 2000000 in
set_option maxRecDepth 20000 in
theorem rdiv_yes (ao bo co eo : Option Addr) (n capa m capb p capc q capd : Nat) (x y : Rat) (w : World) (h1 : Row w ao n capa (limbs x.num.natAbs)) (h2 : Row w bo m capb (limbs x.den)) (h3 : Row w co p capc (limbs y.num.natAbs)) (h4 : Row w eo q capd (limbs y.den)) (b1 : n ≤ 10000) (b2 : m ≤ 10000) (b3 : p ≤ 10000) (b4 : q ≤ 10000) (hy0 : y ≠ 0) :
    Calls Tryz.prog 99 #[.agg #[.bool (negB x), .slice ao n capa, .slice bo m capb], .agg #[.bool (negB y), .slice co p capc, .slice eo q capd]] w fun e w' => ∃ v, e = .returned (.tuple #[v, .bool true]) ∧ Frac w' v (x / y) ∧ Below w.heap.size w w' := by
  have hy := hid hy0
  have hn0 : Hid (y.num.natAbs ≠ 0) := fun h => hy0 ((num_zero y).1 h)
  have hz : isZ y.num.natAbs = false := by unfold isZ; rw [beq_eq_false_iff_ne]; exact hn0.out
  clear hy0
  obtain ⟨c1, c2, c3, c5⟩ := boxes3 w #[.bool (negB x), .slice ao n capa, .slice bo m capb] #[.bool (negB y), .slice co p capc, .slice eo q capd] #[.bool false, .slice none 0 0, .slice none 0 0] 90 90 90
  have R0_0 := hid (h1.below c5)
  have len0 := h1.len
  have R1_0 := hid (h2.below c5)
  have len1 := h2.len
  have R2_0 := hid (h3.below c5)
  have len2 := h3.len
  have R3_0 := hid (h4.below c5)
  have len3 := h4.len
  have XA_0 := hid c1
  have XB_0 := hid c2
  have XR_0 := hid c3
  have HB_0 := hid c5
  clear h1 h2 h3 h4 c1 c2 c3 c5
  go_enter Tryz.func99, Tryz.ntmps99
  go_wp2_with fail
  refine (isZero_any co p capc y.num.natAbs _ R2_0.out (by omega)).mono ?_
  rintro e0 w0 ⟨rfl, hb0⟩
  have XA_1 := hid (XA_0.out.keep hb0)
  have XB_1 := hid (XB_0.out.keep hb0)
  have XR_1 := hid (XR_0.out.keep hb0)
  have R0_1 := hid (R0_0.out.below hb0)
  have R1_1 := hid (R1_0.out.below hb0)
  have R2_1 := hid (R2_0.out.below hb0)
  have R3_1 := hid (R3_0.out.below hb0)
  have HB_1 : Hid (Below w.heap.size w w0) := HB_0.out.trans (hb0.mono HB_0.out.size)
  have ltA := XA_1.out.lt
  have cA0 := XA_1.out.cell 0 _ rfl
  have cA1 := XA_1.out.cell 1 _ rfl
  have cA2 := XA_1.out.cell 2 _ rfl
  have ltB := XB_1.out.lt
  have cB0 := XB_1.out.cell 0 _ rfl
  have cB1 := XB_1.out.cell 1 _ rfl
  have cB2 := XB_1.out.cell 2 _ rfl
  have ltR := XR_1.out.lt
  have cR0 := XR_1.out.cell 0 _ rfl
  have zR0 := XR_1.out.frozen 0
  have cR1 := XR_1.out.cell 1 _ rfl
  have zR1 := XR_1.out.frozen 1
  have cR2 := XR_1.out.cell 2 _ rfl
  have zR2 := XR_1.out.frozen 2
  clear hb0
  go_wp2_with fail
  refine (mul_any ao eo n capa q capd (x.num.natAbs) (y.den) _ R0_1.out R3_1.out (by omega)).mono ?_
  rintro e1 w1 ⟨v1, rfl, ⟨to, tn, tc, rfl, hr1⟩, hb1⟩
  have XA_2 := hid (XA_1.out.keep hb1)
  have XB_2 := hid (XB_1.out.keep hb1)
  have XR_2 := hid (XR_1.out.keep hb1)
  have R0_2 := hid (R0_1.out.below hb1)
  have R1_2 := hid (R1_1.out.below hb1)
  have R2_2 := hid (R2_1.out.below hb1)
  have R3_2 := hid (R3_1.out.below hb1)
  have HB_2 : Hid (Below w.heap.size w w1) := HB_1.out.trans (hb1.mono HB_1.out.size)
  clear ltA cA0 cA1 cA2 ltB cB0 cB1 cB2 ltR cR0 zR0 cR1 zR1 cR2 zR2
  have ltA := XA_2.out.lt
  have cA0 := XA_2.out.cell 0 _ rfl
  have cA1 := XA_2.out.cell 1 _ rfl
  have cA2 := XA_2.out.cell 2 _ rfl
  have ltB := XB_2.out.lt
  have cB0 := XB_2.out.cell 0 _ rfl
  have cB1 := XB_2.out.cell 1 _ rfl
  have cB2 := XB_2.out.cell 2 _ rfl
  have ltR := XR_2.out.lt
  have cR0 := XR_2.out.cell 0 _ rfl
  have zR0 := XR_2.out.frozen 0
  have cR1 := XR_2.out.cell 1 _ rfl
  have zR1 := XR_2.out.frozen 1
  have cR2 := XR_2.out.cell 2 _ rfl
  have zR2 := XR_2.out.frozen 2
  have Rt_2 := hid hr1
  have lent := hr1.len
  have bdt : tn ≤ 20000 := by rw [← lent]; exact Nat.le_trans (prod_len len0 len3) (by omega)
  clear hb1 hr1
  have YA_2 := hid (bx_past XA_2.out (.cells #[.slice to tn tc] 88))
  have YB_2 := hid (bx_past XB_2.out (.cells #[.slice to tn tc] 88))
  have YR_2 := hid (bx_past XR_2.out (.cells #[.slice to tn tc] 88))
  have Yt_2 := hid (bx_new w1 #[.slice to tn tc] 88)
  have Q0_2 := hid (R0_2.out.alloc (.cells #[.slice to tn tc] 88))
  have Q1_2 := hid (R1_2.out.alloc (.cells #[.slice to tn tc] 88))
  have Q2_2 := hid (R2_2.out.alloc (.cells #[.slice to tn tc] 88))
  have Q3_2 := hid (R3_2.out.alloc (.cells #[.slice to tn tc] 88))
  have Qt_2 := hid (Rt_2.out.alloc (.cells #[.slice to tn tc] 88))
  have HC_2 : Hid (Below w.heap.size w (w1.alloc (.cells #[.slice to tn tc] 88))) := HB_2.out.alloc HB_2.out.size (.cells #[.slice to tn tc] 88)
  go_wp2_with fail
  refine (mul_any bo co m capb p capc (x.den) (y.num.natAbs) _ Q1_2.out Q2_2.out (by omega)).mono ?_
  rintro e2 w2 ⟨v2, rfl, ⟨ko, kn, kc, rfl, hr2⟩, hb2⟩
  have XA_3 := hid (YA_2.out.keep hb2)
  have XB_3 := hid (YB_2.out.keep hb2)
  have XR_3 := hid (YR_2.out.keep hb2)
  have Xt_3 := hid (Yt_2.out.keep hb2)
  have R0_3 := hid (Q0_2.out.below hb2)
  have R1_3 := hid (Q1_2.out.below hb2)
  have R2_3 := hid (Q2_2.out.below hb2)
  have R3_3 := hid (Q3_2.out.below hb2)
  have Rt_3 := hid (Qt_2.out.below hb2)
  have HB_3 : Hid (Below w.heap.size w w2) := HC_2.out.trans (hb2.mono HC_2.out.size)
  clear ltA cA0 cA1 cA2 ltB cB0 cB1 cB2 ltR cR0 zR0 cR1 zR1 cR2 zR2
  have ltA := XA_3.out.lt
  have cA0 := XA_3.out.cell 0 _ rfl
  have cA1 := XA_3.out.cell 1 _ rfl
  have cA2 := XA_3.out.cell 2 _ rfl
  have ltB := XB_3.out.lt
  have cB0 := XB_3.out.cell 0 _ rfl
  have cB1 := XB_3.out.cell 1 _ rfl
  have cB2 := XB_3.out.cell 2 _ rfl
  have ltR := XR_3.out.lt
  have cR0 := XR_3.out.cell 0 _ rfl
  have zR0 := XR_3.out.frozen 0
  have cR1 := XR_3.out.cell 1 _ rfl
  have zR1 := XR_3.out.frozen 1
  have cR2 := XR_3.out.cell 2 _ rfl
  have zR2 := XR_3.out.frozen 2
  have ltt := Xt_3.out.lt
  have ct0 := Xt_3.out.cell 0 _ rfl
  have Rk_3 := hid hr2
  have lenk := hr2.len
  have bdk : kn ≤ 20000 := by rw [← lenk]; exact Nat.le_trans (prod_len len1 len2) (by omega)
  clear hb2 hr2
  have YA_3 := hid (bx_past XA_3.out (.cells #[.slice ko kn kc] 88))
  have YB_3 := hid (bx_past XB_3.out (.cells #[.slice ko kn kc] 88))
  have YR_3 := hid (bx_past XR_3.out (.cells #[.slice ko kn kc] 88))
  have Yt_3 := hid (bx_past Xt_3.out (.cells #[.slice ko kn kc] 88))
  have Yk_3 := hid (bx_new w2 #[.slice ko kn kc] 88)
  have Q0_3 := hid (R0_3.out.alloc (.cells #[.slice ko kn kc] 88))
  have Q1_3 := hid (R1_3.out.alloc (.cells #[.slice ko kn kc] 88))
  have Q2_3 := hid (R2_3.out.alloc (.cells #[.slice ko kn kc] 88))
  have Q3_3 := hid (R3_3.out.alloc (.cells #[.slice ko kn kc] 88))
  have Qt_3 := hid (Rt_3.out.alloc (.cells #[.slice ko kn kc] 88))
  have Qk_3 := hid (Rk_3.out.alloc (.cells #[.slice ko kn kc] 88))
  have HC_3 : Hid (Below w.heap.size w (w2.alloc (.cells #[.slice ko kn kc] 88))) := HB_3.out.alloc HB_3.out.size (.cells #[.slice ko kn kc] 88)
  go_wp2_with fail
  refine (lowest_any (negB x != negB y) to ko tn tc kn kc (x.num.natAbs * y.den) (x.den * y.num.natAbs) _ Qt_3.out Qk_3.out (by omega) (by omega) (Nat.mul_ne_zero x.den_nz hn0.out)).mono ?_
  rintro e3 w3 ⟨v3, rfl, ⟨go, gn, gc, ho, hn, hc, rfl, hg, hh⟩, hb3⟩
  have XA_4 := hid (YA_3.out.keep hb3)
  have XB_4 := hid (YB_3.out.keep hb3)
  have XR_4 := hid (YR_3.out.keep hb3)
  have Xt_4 := hid (Yt_3.out.keep hb3)
  have Xk_4 := hid (Yk_3.out.keep hb3)
  have R0_4 := hid (Q0_3.out.below hb3)
  have R1_4 := hid (Q1_3.out.below hb3)
  have R2_4 := hid (Q2_3.out.below hb3)
  have R3_4 := hid (Q3_3.out.below hb3)
  have Rt_4 := hid (Qt_3.out.below hb3)
  have Rk_4 := hid (Qk_3.out.below hb3)
  have HB_4 : Hid (Below w.heap.size w w3) := HC_3.out.trans (hb3.mono HC_3.out.size)
  clear ltA cA0 cA1 cA2 ltB cB0 cB1 cB2 ltR cR0 zR0 cR1 zR1 cR2 zR2 ltt ct0
  have ltA := XA_4.out.lt
  have cA0 := XA_4.out.cell 0 _ rfl
  have cA1 := XA_4.out.cell 1 _ rfl
  have cA2 := XA_4.out.cell 2 _ rfl
  have ltB := XB_4.out.lt
  have cB0 := XB_4.out.cell 0 _ rfl
  have cB1 := XB_4.out.cell 1 _ rfl
  have cB2 := XB_4.out.cell 2 _ rfl
  have ltR := XR_4.out.lt
  have cR0 := XR_4.out.cell 0 _ rfl
  have zR0 := XR_4.out.frozen 0
  have cR1 := XR_4.out.cell 1 _ rfl
  have zR1 := XR_4.out.frozen 1
  have cR2 := XR_4.out.cell 2 _ rfl
  have zR2 := XR_4.out.frozen 2
  have ltt := Xt_4.out.lt
  have ct0 := Xt_4.out.cell 0 _ rfl
  have ltk := Xk_4.out.lt
  have ck0 := Xk_4.out.cell 0 _ rfl
  have HG := hid hg
  have HH := hid hh
  clear hb3 hg hh
  go_wp2
  have Z := XR_4.out.put3 (.bool (negB (mkRat (sg (negB x != negB y) (x.num.natAbs * y.den)) (x.den * y.num.natAbs)))) (.slice go gn gc) (.slice ho hn hc)
  have z0 := Z.cell 0 _ rfl
  have z1 := Z.cell 1 _ rfl
  have z2 := Z.cell 2 _ rfl
  unfold wput3 at z0 z1 z2
  refine bodyPost_ret (v := .tuple #[.agg #[.bool (negB (mkRat (sg (negB x != negB y) (x.num.natAbs * y.den)) (x.den * y.num.natAbs))), .slice go gn gc, .slice ho hn hc], .bool true]) (by simp [results, Tryz.results99, go_sem, z0, z1, z2]) rfl ⟨_, rfl, ?_, below_put3 HB_4.out (by omega) _ _ _⟩
  rw [div_sg x y hy.out]
  exact ⟨go, gn, gc, ho, hn, hc, rfl, HG.out.put3 XR_4.out (by decide) _ _ _, HH.out.put3 XR_4.out (by decide) _ _ _⟩

/-- -1, 0, 1: x below y, the same, above -/
def cmpQ (x y : Rat) : Int := if x < y then -1 else if x = y then 0 else 1

theorem lt_sg (x y : Rat) : x < y ↔ sg (negB x) (x.num.natAbs * y.den) < sg (negB y) (y.num.natAbs * x.den) := by
  have e : ∀ (m : Bool) (a b : Nat), sg m (a * b) = sg m a * b := by intro m a b; cases m <;> simp [sg, Int.neg_mul]
  rw [Rat.lt_iff, e, e, ← num_sg, ← num_sg]
theorem eq_sg (x y : Rat) : x = y ↔ sg (negB x) (x.num.natAbs * y.den) = sg (negB y) (y.num.natAbs * x.den) := by
  have e : ∀ (m : Bool) (a b : Nat), sg m (a * b) = sg m a * b := by intro m a b; cases m <;> simp [sg, Int.neg_mul]
  rw [e, e, ← num_sg, ← num_sg]
  have := @Rat.mkRat_eq_iff x.den y.den x.num y.num x.den_nz y.den_nz
  rwa [Rat.mkRat_self, Rat.mkRat_self] at this
theorem cmpQ_of (x y : Rat) (a b : Int) (hl : x < y ↔ a < b) (he : x = y ↔ a = b) : cmpQ x y = cmp3 a b := by
  unfold cmpQ cmp3
  by_cases h1 : a < b
  · rw [if_pos (hl.2 h1), if_pos h1]
  · rw [if_neg (fun h => h1 (hl.1 h)), if_neg h1]
    by_cases h2 : a = b
    · rw [if_pos (he.2 h2), if_pos h2]
    · rw [if_neg (fun h => h2 (he.1 h)), if_neg h2]
theorem cmp_pos (x y : Rat) (hx : negB x = false) (hy : negB y = false) : cmpQ x y = cmp3 ((x.num.natAbs * y.den : Nat) : Int) ((y.num.natAbs * x.den : Nat) : Int) := by
  have hl := lt_sg x y
  have he := eq_sg x y
  rw [hx, hy] at hl he
  exact cmpQ_of x y _ _ hl he
theorem cmp_neg (x y : Rat) (hx : negB x = true) (hy : negB y = true) : cmpQ x y = cmp3 ((y.num.natAbs * x.den : Nat) : Int) ((x.num.natAbs * y.den : Nat) : Int) := by
  have hl := lt_sg x y
  have he := eq_sg x y
  rw [hx, hy] at hl he
  simp only [sg, if_true] at hl he
  exact cmpQ_of x y _ _ (by rw [hl]; omega) (by rw [he]; omega)
theorem cmp_np (x y : Rat) (hx : negB x = true) (hy : negB y = false) : cmpQ x y = -1 := by
  have h : x < y := by
    unfold negB at hx hy
    rw [decide_eq_true_iff] at hx
    rw [decide_eq_false_iff_not] at hy
    rw [Rat.lt_iff]
    have h1 : x.num * (y.den : Int) < 0 := Int.mul_neg_of_neg_of_pos hx (by have := den_pos y; omega)
    have h2 : 0 ≤ y.num * (x.den : Int) := Int.mul_nonneg (by omega) (by omega)
    omega
  unfold cmpQ; rw [if_pos h]
theorem cmp_pn (x y : Rat) (hx : negB x = false) (hy : negB y = true) : cmpQ x y = 1 := by
  have h : y < x := by
    unfold negB at hx hy
    rw [decide_eq_true_iff] at hy
    rw [decide_eq_false_iff_not] at hx
    rw [Rat.lt_iff]
    have h1 : y.num * (x.den : Int) < 0 := Int.mul_neg_of_neg_of_pos hy (by have := den_pos x; omega)
    have h2 : 0 ≤ x.num * (y.den : Int) := Int.mul_nonneg (by omega) (by omega)
    omega
  unfold cmpQ
  rw [if_neg (by intro hc; rw [Rat.lt_iff] at h hc; omega), if_neg (by intro hc; rw [hc] at h; exact Rat.lt_irrefl h)]

set_option maxHeartbeats 2000000 in
set_option maxRecDepth 20000 in
theorem rcmp_np (ao bo co eo : Option Addr) (n capa m capb p capc q capd : Nat) (x y : Rat) (w : World) (h1 : Row w ao n capa (limbs x.num.natAbs)) (h2 : Row w bo m capb (limbs x.den)) (h3 : Row w co p capc (limbs y.num.natAbs)) (h4 : Row w eo q capd (limbs y.den)) (b1 : n ≤ 10000) (b2 : m ≤ 10000) (b3 : p ≤ 10000) (b4 : q ≤ 10000) (hx : negB x = true) (hy : negB y = false) :
    Calls Tryz.prog 101 #[.agg #[.bool (negB x), .slice ao n capa, .slice bo m capb], .agg #[.bool (negB y), .slice co p capc, .slice eo q capd]] w fun e w' => e = .returned (.int .i64 (cmpQ x y)) ∧ Below w.heap.size w w' := by
  have he := hid (cmp_np x y hx hy)
  rw [hx, hy]
  clear hx hy
  obtain ⟨c1, c2, c5⟩ := boxes2 w #[.bool (true), .slice ao n capa, .slice bo m capb] #[.bool (false), .slice co p capc, .slice eo q capd] 90 90
  have R0_0 := hid (h1.below c5)
  have len0 := h1.len
  have R1_0 := hid (h2.below c5)
  have len1 := h2.len
  have R2_0 := hid (h3.below c5)
  have len2 := h3.len
  have R3_0 := hid (h4.below c5)
  have len3 := h4.len
  have XA_0 := hid c1
  have XB_0 := hid c2
  have HB_0 := hid c5
  clear h1 h2 h3 h4 c1 c2 c5
  go_enter Tryz.func101, Tryz.ntmps101
  go_wp2
  go_ret
  exact ⟨by rw [he.out]; rfl, HB_0.out⟩

set_option maxHeartbeats 2000000 in
set_option maxRecDepth 20000 in
theorem rcmp_pn (ao bo co eo : Option Addr) (n capa m capb p capc q capd : Nat) (x y : Rat) (w : World) (h1 : Row w ao n capa (limbs x.num.natAbs)) (h2 : Row w bo m capb (limbs x.den)) (h3 : Row w co p capc (limbs y.num.natAbs)) (h4 : Row w eo q capd (limbs y.den)) (b1 : n ≤ 10000) (b2 : m ≤ 10000) (b3 : p ≤ 10000) (b4 : q ≤ 10000) (hx : negB x = false) (hy : negB y = true) :
    Calls Tryz.prog 101 #[.agg #[.bool (negB x), .slice ao n capa, .slice bo m capb], .agg #[.bool (negB y), .slice co p capc, .slice eo q capd]] w fun e w' => e = .returned (.int .i64 (cmpQ x y)) ∧ Below w.heap.size w w' := by
  have he := hid (cmp_pn x y hx hy)
  rw [hx, hy]
  clear hx hy
  obtain ⟨c1, c2, c5⟩ := boxes2 w #[.bool (false), .slice ao n capa, .slice bo m capb] #[.bool (true), .slice co p capc, .slice eo q capd] 90 90
  have R0_0 := hid (h1.below c5)
  have len0 := h1.len
  have R1_0 := hid (h2.below c5)
  have len1 := h2.len
  have R2_0 := hid (h3.below c5)
  have len2 := h3.len
  have R3_0 := hid (h4.below c5)
  have len3 := h4.len
  have XA_0 := hid c1
  have XB_0 := hid c2
  have HB_0 := hid c5
  clear h1 h2 h3 h4 c1 c2 c5
  go_enter Tryz.func101, Tryz.ntmps101
  go_wp2
  go_ret
  exact ⟨by rw [he.out]; rfl, HB_0.out⟩

set_option maxHeartbeats 2000000 in
set_option maxRecDepth 20000 in
theorem rcmp_pos (ao bo co eo : Option Addr) (n capa m capb p capc q capd : Nat) (x y : Rat) (w : World) (h1 : Row w ao n capa (limbs x.num.natAbs)) (h2 : Row w bo m capb (limbs x.den)) (h3 : Row w co p capc (limbs y.num.natAbs)) (h4 : Row w eo q capd (limbs y.den)) (b1 : n ≤ 10000) (b2 : m ≤ 10000) (b3 : p ≤ 10000) (b4 : q ≤ 10000) (hx : negB x = false) (hy : negB y = false) :
    Calls Tryz.prog 101 #[.agg #[.bool (negB x), .slice ao n capa, .slice bo m capb], .agg #[.bool (negB y), .slice co p capc, .slice eo q capd]] w fun e w' => e = .returned (.int .i64 (cmpQ x y)) ∧ Below w.heap.size w w' := by
  have he := hid (cmp_pos x y hx hy)
  rw [hx, hy]
  clear hx hy
  obtain ⟨c1, c2, c5⟩ := boxes2 w #[.bool (false), .slice ao n capa, .slice bo m capb] #[.bool (false), .slice co p capc, .slice eo q capd] 90 90
  have R0_0 := hid (h1.below c5)
  have len0 := h1.len
  have R1_0 := hid (h2.below c5)
  have len1 := h2.len
  have R2_0 := hid (h3.below c5)
  have len2 := h3.len
  have R3_0 := hid (h4.below c5)
  have len3 := h4.len
  have XA_0 := hid c1
  have XB_0 := hid c2
  have HB_0 := hid c5
  clear h1 h2 h3 h4 c1 c2 c5
  go_enter Tryz.func101, Tryz.ntmps101
  go_wp2_with fail
  refine (mul_any ao eo n capa q capd (x.num.natAbs) (y.den) _ R0_0.out R3_0.out (by omega)).mono ?_
  rintro e0 w0 ⟨v0, rfl, ⟨lo, ln, lc, rfl, hr0⟩, hb0⟩
  have XA_1 := hid (XA_0.out.keep hb0)
  have XB_1 := hid (XB_0.out.keep hb0)
  have R0_1 := hid (R0_0.out.below hb0)
  have R1_1 := hid (R1_0.out.below hb0)
  have R2_1 := hid (R2_0.out.below hb0)
  have R3_1 := hid (R3_0.out.below hb0)
  have HB_1 : Hid (Below w.heap.size w w0) := HB_0.out.trans (hb0.mono HB_0.out.size)
  have ltA := XA_1.out.lt
  have cA0 := XA_1.out.cell 0 _ rfl
  have cA1 := XA_1.out.cell 1 _ rfl
  have cA2 := XA_1.out.cell 2 _ rfl
  have ltB := XB_1.out.lt
  have cB0 := XB_1.out.cell 0 _ rfl
  have cB1 := XB_1.out.cell 1 _ rfl
  have cB2 := XB_1.out.cell 2 _ rfl
  have Rl_1 := hid hr0
  have lenl := hr0.len
  have bdl : ln ≤ 20000 := by rw [← lenl]; exact Nat.le_trans (prod_len len0 len3) (by omega)
  clear hb0 hr0
  have YA_1 := hid (bx_past XA_1.out (.cells #[.slice lo ln lc] 88))
  have YB_1 := hid (bx_past XB_1.out (.cells #[.slice lo ln lc] 88))
  have Yl_1 := hid (bx_new w0 #[.slice lo ln lc] 88)
  have Q0_1 := hid (R0_1.out.alloc (.cells #[.slice lo ln lc] 88))
  have Q1_1 := hid (R1_1.out.alloc (.cells #[.slice lo ln lc] 88))
  have Q2_1 := hid (R2_1.out.alloc (.cells #[.slice lo ln lc] 88))
  have Q3_1 := hid (R3_1.out.alloc (.cells #[.slice lo ln lc] 88))
  have Ql_1 := hid (Rl_1.out.alloc (.cells #[.slice lo ln lc] 88))
  have HC_1 : Hid (Below w.heap.size w (w0.alloc (.cells #[.slice lo ln lc] 88))) := HB_1.out.alloc HB_1.out.size (.cells #[.slice lo ln lc] 88)
  go_wp2_with fail
  refine (mul_any co bo p capc m capb (y.num.natAbs) (x.den) _ Q2_1.out Q1_1.out (by omega)).mono ?_
  rintro e1 w1 ⟨v1, rfl, ⟨so, sn, sc, rfl, hr1⟩, hb1⟩
  have XA_2 := hid (YA_1.out.keep hb1)
  have XB_2 := hid (YB_1.out.keep hb1)
  have Xl_2 := hid (Yl_1.out.keep hb1)
  have R0_2 := hid (Q0_1.out.below hb1)
  have R1_2 := hid (Q1_1.out.below hb1)
  have R2_2 := hid (Q2_1.out.below hb1)
  have R3_2 := hid (Q3_1.out.below hb1)
  have Rl_2 := hid (Ql_1.out.below hb1)
  have HB_2 : Hid (Below w.heap.size w w1) := HC_1.out.trans (hb1.mono HC_1.out.size)
  clear ltA cA0 cA1 cA2 ltB cB0 cB1 cB2
  have ltA := XA_2.out.lt
  have cA0 := XA_2.out.cell 0 _ rfl
  have cA1 := XA_2.out.cell 1 _ rfl
  have cA2 := XA_2.out.cell 2 _ rfl
  have ltB := XB_2.out.lt
  have cB0 := XB_2.out.cell 0 _ rfl
  have cB1 := XB_2.out.cell 1 _ rfl
  have cB2 := XB_2.out.cell 2 _ rfl
  have ltl := Xl_2.out.lt
  have cl0 := Xl_2.out.cell 0 _ rfl
  have Rs_2 := hid hr1
  have lens := hr1.len
  have bds : sn ≤ 20000 := by rw [← lens]; exact Nat.le_trans (prod_len len2 len1) (by omega)
  clear hb1 hr1
  have YA_2 := hid (bx_past XA_2.out (.cells #[.slice so sn sc] 88))
  have YB_2 := hid (bx_past XB_2.out (.cells #[.slice so sn sc] 88))
  have Yl_2 := hid (bx_past Xl_2.out (.cells #[.slice so sn sc] 88))
  have Ys_2 := hid (bx_new w1 #[.slice so sn sc] 88)
  have Q0_2 := hid (R0_2.out.alloc (.cells #[.slice so sn sc] 88))
  have Q1_2 := hid (R1_2.out.alloc (.cells #[.slice so sn sc] 88))
  have Q2_2 := hid (R2_2.out.alloc (.cells #[.slice so sn sc] 88))
  have Q3_2 := hid (R3_2.out.alloc (.cells #[.slice so sn sc] 88))
  have Ql_2 := hid (Rl_2.out.alloc (.cells #[.slice so sn sc] 88))
  have Qs_2 := hid (Rs_2.out.alloc (.cells #[.slice so sn sc] 88))
  have HC_2 : Hid (Below w.heap.size w (w1.alloc (.cells #[.slice so sn sc] 88))) := HB_2.out.alloc HB_2.out.size (.cells #[.slice so sn sc] 88)
  go_wp2_with fail
  refine (compare_any lo so ln lc sn sc (x.num.natAbs * y.den) (y.num.natAbs * x.den) _ Ql_2.out Qs_2.out (by omega) (by omega)).mono ?_
  rintro e2 w2 ⟨rfl, hb2⟩
  have XA_3 := hid (YA_2.out.keep hb2)
  have XB_3 := hid (YB_2.out.keep hb2)
  have Xl_3 := hid (Yl_2.out.keep hb2)
  have Xs_3 := hid (Ys_2.out.keep hb2)
  have R0_3 := hid (Q0_2.out.below hb2)
  have R1_3 := hid (Q1_2.out.below hb2)
  have R2_3 := hid (Q2_2.out.below hb2)
  have R3_3 := hid (Q3_2.out.below hb2)
  have Rl_3 := hid (Ql_2.out.below hb2)
  have Rs_3 := hid (Qs_2.out.below hb2)
  have HB_3 : Hid (Below w.heap.size w w2) := HC_2.out.trans (hb2.mono HC_2.out.size)
  clear ltA cA0 cA1 cA2 ltB cB0 cB1 cB2 ltl cl0
  have ltA := XA_3.out.lt
  have cA0 := XA_3.out.cell 0 _ rfl
  have cA1 := XA_3.out.cell 1 _ rfl
  have cA2 := XA_3.out.cell 2 _ rfl
  have ltB := XB_3.out.lt
  have cB0 := XB_3.out.cell 0 _ rfl
  have cB1 := XB_3.out.cell 1 _ rfl
  have cB2 := XB_3.out.cell 2 _ rfl
  have ltl := Xl_3.out.lt
  have cl0 := Xl_3.out.cell 0 _ rfl
  have lts := Xs_3.out.lt
  have cs0 := Xs_3.out.cell 0 _ rfl
  rw [← he.out]
  clear hb2
  go_wp2
  go_ret
  exact ⟨rfl, HB_3.out⟩

set_option maxHeartbeats 2000000 in
set_option maxRecDepth 20000 in
theorem rcmp_neg (ao bo co eo : Option Addr) (n capa m capb p capc q capd : Nat) (x y : Rat) (w : World) (h1 : Row w ao n capa (limbs x.num.natAbs)) (h2 : Row w bo m capb (limbs x.den)) (h3 : Row w co p capc (limbs y.num.natAbs)) (h4 : Row w eo q capd (limbs y.den)) (b1 : n ≤ 10000) (b2 : m ≤ 10000) (b3 : p ≤ 10000) (b4 : q ≤ 10000) (hx : negB x = true) (hy : negB y = true) :
    Calls Tryz.prog 101 #[.agg #[.bool (negB x), .slice ao n capa, .slice bo m capb], .agg #[.bool (negB y), .slice co p capc, .slice eo q capd]] w fun e w' => e = .returned (.int .i64 (cmpQ x y)) ∧ Below w.heap.size w w' := by
  have he := hid (cmp_neg x y hx hy)
  rw [hx, hy]
  clear hx hy
  obtain ⟨c1, c2, c5⟩ := boxes2 w #[.bool (true), .slice ao n capa, .slice bo m capb] #[.bool (true), .slice co p capc, .slice eo q capd] 90 90
  have R0_0 := hid (h1.below c5)
  have len0 := h1.len
  have R1_0 := hid (h2.below c5)
  have len1 := h2.len
  have R2_0 := hid (h3.below c5)
  have len2 := h3.len
  have R3_0 := hid (h4.below c5)
  have len3 := h4.len
  have XA_0 := hid c1
  have XB_0 := hid c2
  have HB_0 := hid c5
  clear h1 h2 h3 h4 c1 c2 c5
  go_enter Tryz.func101, Tryz.ntmps101
  go_wp2_with fail
  refine (mul_any ao eo n capa q capd (x.num.natAbs) (y.den) _ R0_0.out R3_0.out (by omega)).mono ?_
  rintro e0 w0 ⟨v0, rfl, ⟨lo, ln, lc, rfl, hr0⟩, hb0⟩
  have XA_1 := hid (XA_0.out.keep hb0)
  have XB_1 := hid (XB_0.out.keep hb0)
  have R0_1 := hid (R0_0.out.below hb0)
  have R1_1 := hid (R1_0.out.below hb0)
  have R2_1 := hid (R2_0.out.below hb0)
  have R3_1 := hid (R3_0.out.below hb0)
  have HB_1 : Hid (Below w.heap.size w w0) := HB_0.out.trans (hb0.mono HB_0.out.size)
  have ltA := XA_1.out.lt
  have cA0 := XA_1.out.cell 0 _ rfl
  have cA1 := XA_1.out.cell 1 _ rfl
  have cA2 := XA_1.out.cell 2 _ rfl
  have ltB := XB_1.out.lt
  have cB0 := XB_1.out.cell 0 _ rfl
  have cB1 := XB_1.out.cell 1 _ rfl
  have cB2 := XB_1.out.cell 2 _ rfl
  have Rl_1 := hid hr0
  have lenl := hr0.len
  have bdl : ln ≤ 20000 := by rw [← lenl]; exact Nat.le_trans (prod_len len0 len3) (by omega)
  clear hb0 hr0
  have YA_1 := hid (bx_past XA_1.out (.cells #[.slice lo ln lc] 88))
  have YB_1 := hid (bx_past XB_1.out (.cells #[.slice lo ln lc] 88))
  have Yl_1 := hid (bx_new w0 #[.slice lo ln lc] 88)
  have Q0_1 := hid (R0_1.out.alloc (.cells #[.slice lo ln lc] 88))
  have Q1_1 := hid (R1_1.out.alloc (.cells #[.slice lo ln lc] 88))
  have Q2_1 := hid (R2_1.out.alloc (.cells #[.slice lo ln lc] 88))
  have Q3_1 := hid (R3_1.out.alloc (.cells #[.slice lo ln lc] 88))
  have Ql_1 := hid (Rl_1.out.alloc (.cells #[.slice lo ln lc] 88))
  have HC_1 : Hid (Below w.heap.size w (w0.alloc (.cells #[.slice lo ln lc] 88))) := HB_1.out.alloc HB_1.out.size (.cells #[.slice lo ln lc] 88)
  go_wp2_with fail
  refine (mul_any co bo p capc m capb (y.num.natAbs) (x.den) _ Q2_1.out Q1_1.out (by omega)).mono ?_
  rintro e1 w1 ⟨v1, rfl, ⟨so, sn, sc, rfl, hr1⟩, hb1⟩
  have XA_2 := hid (YA_1.out.keep hb1)
  have XB_2 := hid (YB_1.out.keep hb1)
  have Xl_2 := hid (Yl_1.out.keep hb1)
  have R0_2 := hid (Q0_1.out.below hb1)
  have R1_2 := hid (Q1_1.out.below hb1)
  have R2_2 := hid (Q2_1.out.below hb1)
  have R3_2 := hid (Q3_1.out.below hb1)
  have Rl_2 := hid (Ql_1.out.below hb1)
  have HB_2 : Hid (Below w.heap.size w w1) := HC_1.out.trans (hb1.mono HC_1.out.size)
  clear ltA cA0 cA1 cA2 ltB cB0 cB1 cB2
  have ltA := XA_2.out.lt
  have cA0 := XA_2.out.cell 0 _ rfl
  have cA1 := XA_2.out.cell 1 _ rfl
  have cA2 := XA_2.out.cell 2 _ rfl
  have ltB := XB_2.out.lt
  have cB0 := XB_2.out.cell 0 _ rfl
  have cB1 := XB_2.out.cell 1 _ rfl
  have cB2 := XB_2.out.cell 2 _ rfl
  have ltl := Xl_2.out.lt
  have cl0 := Xl_2.out.cell 0 _ rfl
  have Rs_2 := hid hr1
  have lens := hr1.len
  have bds : sn ≤ 20000 := by rw [← lens]; exact Nat.le_trans (prod_len len2 len1) (by omega)
  clear hb1 hr1
  have YA_2 := hid (bx_past XA_2.out (.cells #[.slice so sn sc] 88))
  have YB_2 := hid (bx_past XB_2.out (.cells #[.slice so sn sc] 88))
  have Yl_2 := hid (bx_past Xl_2.out (.cells #[.slice so sn sc] 88))
  have Ys_2 := hid (bx_new w1 #[.slice so sn sc] 88)
  have Q0_2 := hid (R0_2.out.alloc (.cells #[.slice so sn sc] 88))
  have Q1_2 := hid (R1_2.out.alloc (.cells #[.slice so sn sc] 88))
  have Q2_2 := hid (R2_2.out.alloc (.cells #[.slice so sn sc] 88))
  have Q3_2 := hid (R3_2.out.alloc (.cells #[.slice so sn sc] 88))
  have Ql_2 := hid (Rl_2.out.alloc (.cells #[.slice so sn sc] 88))
  have Qs_2 := hid (Rs_2.out.alloc (.cells #[.slice so sn sc] 88))
  have HC_2 : Hid (Below w.heap.size w (w1.alloc (.cells #[.slice so sn sc] 88))) := HB_2.out.alloc HB_2.out.size (.cells #[.slice so sn sc] 88)
  go_wp2_with fail
  refine (compare_any so lo sn sc ln lc (y.num.natAbs * x.den) (x.num.natAbs * y.den) _ Qs_2.out Ql_2.out (by omega) (by omega)).mono ?_
  rintro e2 w2 ⟨rfl, hb2⟩
  have XA_3 := hid (YA_2.out.keep hb2)
  have XB_3 := hid (YB_2.out.keep hb2)
  have Xl_3 := hid (Yl_2.out.keep hb2)
  have Xs_3 := hid (Ys_2.out.keep hb2)
  have R0_3 := hid (Q0_2.out.below hb2)
  have R1_3 := hid (Q1_2.out.below hb2)
  have R2_3 := hid (Q2_2.out.below hb2)
  have R3_3 := hid (Q3_2.out.below hb2)
  have Rl_3 := hid (Ql_2.out.below hb2)
  have Rs_3 := hid (Qs_2.out.below hb2)
  have HB_3 : Hid (Below w.heap.size w w2) := HC_2.out.trans (hb2.mono HC_2.out.size)
  clear ltA cA0 cA1 cA2 ltB cB0 cB1 cB2 ltl cl0
  have ltA := XA_3.out.lt
  have cA0 := XA_3.out.cell 0 _ rfl
  have cA1 := XA_3.out.cell 1 _ rfl
  have cA2 := XA_3.out.cell 2 _ rfl
  have ltB := XB_3.out.lt
  have cB0 := XB_3.out.cell 0 _ rfl
  have cB1 := XB_3.out.cell 1 _ rfl
  have cB2 := XB_3.out.cell 2 _ rfl
  have ltl := Xl_3.out.lt
  have cl0 := Xl_3.out.cell 0 _ rfl
  have lts := Xs_3.out.lt
  have cs0 := Xs_3.out.cell 0 _ rfl
  rw [← he.out]
  clear hb2
  go_wp2
  go_ret
  exact ⟨rfl, HB_3.out⟩

theorem rcmp_any (ao bo co eo : Option Addr) (n capa m capb p capc q capd : Nat) (x y : Rat) (w : World) (h1 : Row w ao n capa (limbs x.num.natAbs)) (h2 : Row w bo m capb (limbs x.den)) (h3 : Row w co p capc (limbs y.num.natAbs)) (h4 : Row w eo q capd (limbs y.den)) (b1 : n ≤ 10000) (b2 : m ≤ 10000) (b3 : p ≤ 10000) (b4 : q ≤ 10000) :
    Calls Tryz.prog 101 #[.agg #[.bool (negB x), .slice ao n capa, .slice bo m capb], .agg #[.bool (negB y), .slice co p capc, .slice eo q capd]] w fun e w' => e = .returned (.int .i64 (cmpQ x y)) ∧ Below w.heap.size w w' := by
  cases hx : negB x <;> cases hy : negB y
  · have := rcmp_pos ao bo co eo n capa m capb p capc q capd x y w h1 h2 h3 h4 b1 b2 b3 b4 hx hy; rwa [hx, hy] at this
  · have := rcmp_pn ao bo co eo n capa m capb p capc q capd x y w h1 h2 h3 h4 b1 b2 b3 b4 hx hy; rwa [hx, hy] at this
  · have := rcmp_np ao bo co eo n capa m capb p capc q capd x y w h1 h2 h3 h4 b1 b2 b3 b4 hx hy; rwa [hx, hy] at this
  · have := rcmp_neg ao bo co eo n capa m capb p capc q capd x y w h1 h2 h3 h4 b1 b2 b3 b4 hx hy; rwa [hx, hy] at this
end Go.Proofs.YtigokanoflkinaaGreatDoor

/- ratio.Subtract: the difference of any two fractions. -/
namespace Go.Proofs.YtigokanoflkinaaGreatDoor
set_option linter.unusedSimpArgs false
set_option linter.unusedVariables false
open Go.RowKit Por

theorem neg_num (y : Rat) : (-y).num.natAbs = y.num.natAbs ∧ (-y).den = y.den ∧ negB (-y) = (!negB y && !isZ y.num.natAbs) := by
  have e1 : (-y).num = -y.num := rfl
  have e2 : (-y).den = y.den := rfl
  refine ⟨by rw [e1, Int.natAbs_neg], e2, ?_⟩
  unfold negB isZ
  rw [e1]
  rcases Int.lt_trichotomy y.num 0 with h | h | h
  · rw [decide_eq_false (by omega : ¬ -y.num < 0), decide_eq_true h]; rfl
  · rw [h]; rfl
  · rw [decide_eq_true (by omega : -y.num < 0), decide_eq_false (by omega : ¬ y.num < 0), beq_eq_false_iff_ne.2 (by omega : y.num.natAbs ≠ 0)]; rfl

theorem pc {w : World} {o : Obj} {b i : Nat} (h : b < w.heap.size) : (w.alloc o).cell? ⟨b, i, none⟩ = w.cell? ⟨b, i, none⟩ := World.cell?_of_block (Below.heap_alloc w o b h)

set_option maxHeartbeats 2000000 in
set_option maxRecDepth 20000 in
theorem rsub_any (ao bo co eo : Option Addr) (n capa m capb p capc q capd : Nat) (x y : Rat) (w : World) (h1 : Row w ao n capa (limbs x.num.natAbs)) (h2 : Row w bo m capb (limbs x.den)) (h3 : Row w co p capc (limbs y.num.natAbs)) (h4 : Row w eo q capd (limbs y.den)) (b1 : n ≤ 10000) (b2 : m ≤ 10000) (b3 : p ≤ 10000) (b4 : q ≤ 10000) :
    Calls Tryz.prog 98 #[.agg #[.bool (negB x), .slice ao n capa, .slice bo m capb], .agg #[.bool (negB y), .slice co p capc, .slice eo q capd]] w fun e w' => ∃ v, e = .returned v ∧ Frac w' v (x - y) ∧ Below w.heap.size w w' := by
  obtain ⟨c1, c2, c3, c5⟩ := boxes3 w #[.bool (negB x), .slice ao n capa, .slice bo m capb] #[.bool (negB y), .slice co p capc, .slice eo q capd] #[.bool false, .slice none 0 0, .slice none 0 0] 90 90 90
  obtain ⟨W, hW⟩ : ∃ W, W = ((w.alloc (.cells #[.bool (negB x), .slice ao n capa, .slice bo m capb] 90)).alloc (.cells #[.bool (negB y), .slice co p capc, .slice eo q capd] 90)).alloc (.cells #[.bool false, .slice none 0 0, .slice none 0 0] 90) := ⟨_, rfl⟩
  rw [← hW] at c1 c2 c3 c5
  have R0 := hid (h1.below c5)
  have R1 := hid (h2.below c5)
  have R2 := hid (h3.below c5)
  have R3 := hid (h4.below c5)
  have XA := hid c1
  have XB := hid c2
  have XR := hid c3
  have HB := hid c5
  have HW := hid hW
  have N := hid (neg_num y)
  clear h1 h2 h3 h4 c1 c2 c3 c5 hW
  go_enter Tryz.func98, Tryz.ntmps98
  go_wp2_with fail
  rw [← HW.out]
  have a0 := XA.out.cell 0 _ rfl
  have a1 := XA.out.cell 1 _ rfl
  have a2 := XA.out.cell 2 _ rfl
  have d0 := XB.out.cell 0 _ rfl
  have d1 := XB.out.cell 1 _ rfl
  have d2 := XB.out.cell 2 _ rfl
  have la := XA.out.lt
  have lb := XB.out.lt
  have lr := XR.out.lt
  cases hy : negB y
  · rw [hy] at XB d0
    obtain ⟨n1, n2, n3⟩ := N.out
    rw [hy] at n3
    have N1 := hid n1
    have N2 := hid n2
    have N3 : Hid (negB (-y) = !isZ y.num.natAbs) := n3
    clear n1 n2 n3 N
    go_region_held3 (fun w' => w'.cell? ⟨w.heap.size + 1, 0, none⟩ = some (.bool false) ∧ w'.cell? ⟨w.heap.size + 1, 1, none⟩ = some (.slice co p capc) ∧ w'.cell? ⟨w.heap.size + 1, 2, none⟩ = some (.slice eo q capd))
      (first | exact ⟨k0, k1, k2⟩ | exact ⟨d0, d1, d2⟩ | exact ⟨(pc kb).trans k0, (pc kb).trans k1, (pc kb).trans k2⟩ | exact ⟨(cell_put3 kn).trans k0, (cell_put3 kn).trans k1, (cell_put3 kn).trans k2⟩ | exact ⟨(pc lb).trans d0, (pc lb).trans d1, (pc lb).trans d2⟩)
      (first
        | (go_at_call 149; refine (isZero_any co p capc y.num.natAbs W.drew (R2.out.drew) (by omega)).mono ?_; rintro e w4 ⟨rfl, hb4⟩; have k0 := (XB.out.drew.keep hb4).cell 0 _ rfl; have k1 := (XB.out.drew.keep hb4).cell 1 _ rfl; have k2 := (XB.out.drew.keep hb4).cell 2 _ rfl; have kb := (XB.out.drew.keep hb4).lt; have Hb4 := hid hb4; clear hb4)
        | (go_at_call 149; refine (isZero_any co p capc y.num.natAbs (W.alloc (.cells #[.bool false, .slice none 0 0, .slice none 0 0] 90)).drew ((R2.out.alloc (.cells #[.bool false, .slice none 0 0, .slice none 0 0] 90)).drew) (by omega)).mono ?_; rintro e w4 ⟨rfl, hb5⟩; have k0 := ((bx_past XB.out (.cells #[.bool false, .slice none 0 0, .slice none 0 0] 90)).drew.keep hb5).cell 0 _ rfl; have k1 := ((bx_past XB.out (.cells #[.bool false, .slice none 0 0, .slice none 0 0] 90)).drew.keep hb5).cell 1 _ rfl; have k2 := ((bx_past XB.out (.cells #[.bool false, .slice none 0 0, .slice none 0 0] 90)).drew.keep hb5).cell 2 _ rfl; have kn : w.heap.size + 1 ≠ W.heap.size := Nat.ne_of_lt lb; have m0 := ((bx_new W #[.bool false, .slice none 0 0, .slice none 0 0] 90).drew.keep hb5).cell 0 _ rfl; have m1 := ((bx_new W #[.bool false, .slice none 0 0, .slice none 0 0] 90).drew.keep hb5).cell 1 _ rfl; have m2 := ((bx_new W #[.bool false, .slice none 0 0, .slice none 0 0] 90).drew.keep hb5).cell 2 _ rfl; have f0 := ((bx_new W #[.bool false, .slice none 0 0, .slice none 0 0] 90).drew.keep hb5).frozen 0; have f1 := ((bx_new W #[.bool false, .slice none 0 0, .slice none 0 0] 90).drew.keep hb5).frozen 1; have f2 := ((bx_new W #[.bool false, .slice none 0 0, .slice none 0 0] 90).drew.keep hb5).frozen 2; have Hb5 := hid hb5; clear hb5))
    · have V0 := bx_past (XA.out.drew.keep Hb4.out) (.cells #[.bool (!isZ y.num.natAbs), .slice co p capc, .slice eo q capd] 90)
      have V5 := bx_new w4 #[.bool (!isZ y.num.natAbs), .slice co p capc, .slice eo q capd] 90
      have VR := bx_past (XR.out.drew.keep Hb4.out) (.cells #[.bool (!isZ y.num.natAbs), .slice co p capc, .slice eo q capd] 90)
      have VA := hid V0
      have VF := hid V5
      have VS := hid VR
      have T0 := hid ((R0.out.drew.below Hb4.out).alloc (.cells #[.bool (!isZ y.num.natAbs), .slice co p capc, .slice eo q capd] 90))
      have T1 := hid ((R1.out.drew.below Hb4.out).alloc (.cells #[.bool (!isZ y.num.natAbs), .slice co p capc, .slice eo q capd] 90))
      have T2 := hid ((R2.out.drew.below Hb4.out).alloc (.cells #[.bool (!isZ y.num.natAbs), .slice co p capc, .slice eo q capd] 90))
      have T3 := hid ((R3.out.drew.below Hb4.out).alloc (.cells #[.bool (!isZ y.num.natAbs), .slice co p capc, .slice eo q capd] 90))
      have VB : Hid (Below w.heap.size w (w4.alloc (.cells #[.bool (!isZ y.num.natAbs), .slice co p capc, .slice eo q capd] 90))) := (HB.out.drew.trans (Hb4.out.mono HB.out.size)).alloc (Nat.le_trans HB.out.size Hb4.out.size) (.cells #[.bool (!isZ y.num.natAbs), .slice co p capc, .slice eo q capd] 90)
      clear V0 V5 VR
      have qA0 := VA.out.cell 0 _ rfl
      have qA1 := VA.out.cell 1 _ rfl
      have qA2 := VA.out.cell 2 _ rfl
      have qF0 := VF.out.cell 0 _ rfl
      have qF1 := VF.out.cell 1 _ rfl
      have qF2 := VF.out.cell 2 _ rfl
      go_wp2_with fail
      have C := radd_any ao bo co eo n capa m capb p capc q capd x (-y) (w4.alloc (.cells #[.bool (!isZ y.num.natAbs), .slice co p capc, .slice eo q capd] 90)) T0.out T1.out (by rw [N1.out]; exact T2.out) (by rw [N2.out]; exact T3.out) b1 b2 b3 b4
      rw [N3.out] at C
      refine C.mono ?_
      rintro e w5 ⟨v, rfl, ⟨go, gn, gc, ho, hn, hc, rfl, hg, hh⟩, hb5⟩
      have VZ := hid (VS.out.keep hb5)
      have VC : Hid (Below w.heap.size w w5) := VB.out.trans (hb5.mono VB.out.size)
      have s0 := VZ.out.cell 0 _ rfl
      have t0 := VZ.out.frozen 0
      have s1 := VZ.out.cell 1 _ rfl
      have t1 := VZ.out.frozen 1
      have s2 := VZ.out.cell 2 _ rfl
      have t2 := VZ.out.frozen 2
      have HG := hid hg
      have HH := hid hh
      clear C hb5 hg hh
      go_wp2
      have Z := VZ.out.put3 (.bool (negB (x + -y))) (.slice go gn gc) (.slice ho hn hc)
      have z0 := Z.cell 0 _ rfl
      have z1 := Z.cell 1 _ rfl
      have z2 := Z.cell 2 _ rfl
      unfold wput3 at z0 z1 z2
      refine bodyPost_ret (v := .agg #[.bool (negB (x + -y)), .slice go gn gc, .slice ho hn hc]) (by simp [results, Tryz.results98, go_sem, z0, z1, z2]) rfl ⟨_, rfl, ?_, below_put3 VC.out (by omega) _ _ _⟩
      rw [Rat.sub_eq_add_neg]
      exact ⟨go, gn, gc, ho, hn, hc, rfl, HG.out.put3 VZ.out (by decide) _ _ _, HH.out.put3 VZ.out (by decide) _ _ _⟩
    · have V0 := ((bx_past XA.out (.cells #[.bool false, .slice none 0 0, .slice none 0 0] 90)).drew.keep Hb5.out).put3_other (.bool (!isZ y.num.natAbs)) (.slice co p capc) (.slice eo q capd) (Nat.ne_of_gt la)
      have V5 := ((bx_new W #[.bool false, .slice none 0 0, .slice none 0 0] 90).drew.keep Hb5.out).put3 (.bool (!isZ y.num.natAbs)) (.slice co p capc) (.slice eo q capd)
      have VR := ((bx_past XR.out (.cells #[.bool false, .slice none 0 0, .slice none 0 0] 90)).drew.keep Hb5.out).put3_other (.bool (!isZ y.num.natAbs)) (.slice co p capc) (.slice eo q capd) (Nat.ne_of_gt lr)
      have VA := hid V0
      have VF := hid V5
      have VS := hid VR
      have T0 := hid (((R0.out.alloc (.cells #[.bool false, .slice none 0 0, .slice none 0 0] 90)).drew.below Hb5.out).put3 ((bx_new W #[.bool false, .slice none 0 0, .slice none 0 0] 90).drew.keep Hb5.out) (by decide) (.bool (!isZ y.num.natAbs)) (.slice co p capc) (.slice eo q capd))
      have T1 := hid (((R1.out.alloc (.cells #[.bool false, .slice none 0 0, .slice none 0 0] 90)).drew.below Hb5.out).put3 ((bx_new W #[.bool false, .slice none 0 0, .slice none 0 0] 90).drew.keep Hb5.out) (by decide) (.bool (!isZ y.num.natAbs)) (.slice co p capc) (.slice eo q capd))
      have T2 := hid (((R2.out.alloc (.cells #[.bool false, .slice none 0 0, .slice none 0 0] 90)).drew.below Hb5.out).put3 ((bx_new W #[.bool false, .slice none 0 0, .slice none 0 0] 90).drew.keep Hb5.out) (by decide) (.bool (!isZ y.num.natAbs)) (.slice co p capc) (.slice eo q capd))
      have T3 := hid (((R3.out.alloc (.cells #[.bool false, .slice none 0 0, .slice none 0 0] 90)).drew.below Hb5.out).put3 ((bx_new W #[.bool false, .slice none 0 0, .slice none 0 0] 90).drew.keep Hb5.out) (by decide) (.bool (!isZ y.num.natAbs)) (.slice co p capc) (.slice eo q capd))
      have VB : Hid (Below w.heap.size w (wput3 w4 W.heap.size (.bool (!isZ y.num.natAbs)) (.slice co p capc) (.slice eo q capd))) := below_put3 ((HB.out.alloc HB.out.size (.cells #[.bool false, .slice none 0 0, .slice none 0 0] 90)).drew.trans (Hb5.out.mono (Nat.le_trans HB.out.size (by show W.heap.size ≤ (W.heap.push _).size; simp)))) HB.out.size (.bool (!isZ y.num.natAbs)) (.slice co p capc) (.slice eo q capd)
      clear V0 V5 VR
      obtain ⟨V, hV⟩ : ∃ V, V = (wput3 w4 W.heap.size (.bool (!isZ y.num.natAbs)) (.slice co p capc) (.slice eo q capd)) := ⟨_, rfl⟩
      rw [← hV] at VA VF VS T0 T1 T2 T3 VB
      change Exit.then _ _ Exit.normal _ (wput3 w4 W.heap.size (.bool (!isZ y.num.natAbs)) (.slice co p capc) (.slice eo q capd))
      rw [← hV]
      clear hV
      have qA0 := VA.out.cell 0 _ rfl
      have qA1 := VA.out.cell 1 _ rfl
      have qA2 := VA.out.cell 2 _ rfl
      have qF0 := VF.out.cell 0 _ rfl
      have qF1 := VF.out.cell 1 _ rfl
      have qF2 := VF.out.cell 2 _ rfl
      go_wp2_with fail
      have C := radd_any ao bo co eo n capa m capb p capc q capd x (-y) V T0.out T1.out (by rw [N1.out]; exact T2.out) (by rw [N2.out]; exact T3.out) b1 b2 b3 b4
      rw [N3.out] at C
      refine C.mono ?_
      rintro e w5 ⟨v, rfl, ⟨go, gn, gc, ho, hn, hc, rfl, hg, hh⟩, hb5⟩
      have VZ := hid (VS.out.keep hb5)
      have VC : Hid (Below w.heap.size w w5) := VB.out.trans (hb5.mono VB.out.size)
      have s0 := VZ.out.cell 0 _ rfl
      have t0 := VZ.out.frozen 0
      have s1 := VZ.out.cell 1 _ rfl
      have t1 := VZ.out.frozen 1
      have s2 := VZ.out.cell 2 _ rfl
      have t2 := VZ.out.frozen 2
      have HG := hid hg
      have HH := hid hh
      clear C hb5 hg hh
      go_wp2
      have Z := VZ.out.put3 (.bool (negB (x + -y))) (.slice go gn gc) (.slice ho hn hc)
      have z0 := Z.cell 0 _ rfl
      have z1 := Z.cell 1 _ rfl
      have z2 := Z.cell 2 _ rfl
      unfold wput3 at z0 z1 z2
      refine bodyPost_ret (v := .agg #[.bool (negB (x + -y)), .slice go gn gc, .slice ho hn hc]) (by simp [results, Tryz.results98, go_sem, z0, z1, z2]) rfl ⟨_, rfl, ?_, below_put3 VC.out (by omega) _ _ _⟩
      rw [Rat.sub_eq_add_neg]
      exact ⟨go, gn, gc, ho, hn, hc, rfl, HG.out.put3 VZ.out (by decide) _ _ _, HH.out.put3 VZ.out (by decide) _ _ _⟩
  · rw [hy] at XB d0
    obtain ⟨n1, n2, n3⟩ := N.out
    rw [hy] at n3
    have N1 := hid n1
    have N2 := hid n2
    have N3 : Hid (negB (-y) = false) := n3
    clear n1 n2 n3 N
    go_region
    have V0 := (bx_past XA.out (.cells #[.bool false, .slice co p capc, .slice eo q capd] 90)).drew
    have V5 := (bx_new W #[.bool false, .slice co p capc, .slice eo q capd] 90).drew
    have VR := (bx_past XR.out (.cells #[.bool false, .slice co p capc, .slice eo q capd] 90)).drew
    have VA := hid V0
    have VF := hid V5
    have VS := hid VR
    have T0 := hid ((R0.out.alloc (.cells #[.bool false, .slice co p capc, .slice eo q capd] 90)).drew)
    have T1 := hid ((R1.out.alloc (.cells #[.bool false, .slice co p capc, .slice eo q capd] 90)).drew)
    have T2 := hid ((R2.out.alloc (.cells #[.bool false, .slice co p capc, .slice eo q capd] 90)).drew)
    have T3 := hid ((R3.out.alloc (.cells #[.bool false, .slice co p capc, .slice eo q capd] 90)).drew)
    have VB : Hid (Below w.heap.size w (W.alloc (.cells #[.bool false, .slice co p capc, .slice eo q capd] 90)).drew) := (HB.out.alloc HB.out.size (.cells #[.bool false, .slice co p capc, .slice eo q capd] 90)).drew
    clear V0 V5 VR
    have qA0 := VA.out.cell 0 _ rfl
    have qA1 := VA.out.cell 1 _ rfl
    have qA2 := VA.out.cell 2 _ rfl
    have qF0 := VF.out.cell 0 _ rfl
    have qF1 := VF.out.cell 1 _ rfl
    have qF2 := VF.out.cell 2 _ rfl
    go_wp2_with fail
    have C := radd_any ao bo co eo n capa m capb p capc q capd x (-y) (W.alloc (.cells #[.bool false, .slice co p capc, .slice eo q capd] 90)).drew T0.out T1.out (by rw [N1.out]; exact T2.out) (by rw [N2.out]; exact T3.out) b1 b2 b3 b4
    rw [N3.out] at C
    refine C.mono ?_
    rintro e w5 ⟨v, rfl, ⟨go, gn, gc, ho, hn, hc, rfl, hg, hh⟩, hb5⟩
    have VZ := hid (VS.out.keep hb5)
    have VC : Hid (Below w.heap.size w w5) := VB.out.trans (hb5.mono VB.out.size)
    have s0 := VZ.out.cell 0 _ rfl
    have t0 := VZ.out.frozen 0
    have s1 := VZ.out.cell 1 _ rfl
    have t1 := VZ.out.frozen 1
    have s2 := VZ.out.cell 2 _ rfl
    have t2 := VZ.out.frozen 2
    have HG := hid hg
    have HH := hid hh
    clear C hb5 hg hh
    go_wp2
    have Z := VZ.out.put3 (.bool (negB (x + -y))) (.slice go gn gc) (.slice ho hn hc)
    have z0 := Z.cell 0 _ rfl
    have z1 := Z.cell 1 _ rfl
    have z2 := Z.cell 2 _ rfl
    unfold wput3 at z0 z1 z2
    refine bodyPost_ret (v := .agg #[.bool (negB (x + -y)), .slice go gn gc, .slice ho hn hc]) (by simp [results, Tryz.results98, go_sem, z0, z1, z2]) rfl ⟨_, rfl, ?_, below_put3 VC.out (by omega) _ _ _⟩
    rw [Rat.sub_eq_add_neg]
    exact ⟨go, gn, gc, ho, hn, hc, rfl, HG.out.put3 VZ.out (by decide) _ _ _, HH.out.put3 VZ.out (by decide) _ _ _⟩
end Go.Proofs.YtigokanoflkinaaGreatDoor

/- Fraction.Text of package ratio: the one text of any fraction. (Laid by mkrate.py.) -/
namespace Go.Proofs.YtigokanoflkinaaGreatDoor
set_option linter.unusedSimpArgs false
set_option linter.unusedVariables false
open Go.RowKit Por
open Go.Lib (decDigits)

theorem bytes_ext (a : ByteArray) (l : List UInt8) (h : a.data.toList = l) : a = ⟨l.toArray⟩ := by
  apply ByteArray.ext; apply Array.toList_inj.1; rw [h]

set_option maxHeartbeats 2000000 in
set_option maxRecDepth 20000 in
theorem rtext_false_one (ao bo : Option Addr) (n capa m capb : Nat) (q : Rat) (w : World) (h1 : Row w ao n capa (limbs q.num.natAbs)) (h2 : Row w bo m capb (limbs q.den)) (b1 : n ≤ 30000) (b2 : m ≤ 30000) (ht : Tab w) (hn : negB q = false) (hd : q.den = 1) :
    Calls Tryz.prog 56 #[.agg #[.bool false, .slice ao n capa, .slice bo m capb]] w fun e w' => e = .returned (.string ⟨(txt q).toArray⟩) ∧ Below w.heap.size w w' := by
  have hn' := hid hn
  have hd' := hid hd
  have hc : Hid (cmp3 (q.den : Int) ((1 : Nat) : Int) = 0) := by show _ = _; unfold cmp3; rw [if_neg (by omega), if_pos (by omega)]
  clear hn hd
  have XA_0 := hid (bx_new w #[.bool false, .slice ao n capa, .slice bo m capb] 90)
  have HB_0 := hid ((Below.refl _ w).alloc (Nat.le_refl _) (.cells #[.bool false, .slice ao n capa, .slice bo m capb] 90))
  have R0_0 := hid (h1.below HB_0.out)
  have R1_0 := hid (h2.below HB_0.out)
  have HT_0 := hid (ht.below HB_0.out)
  have len0 := h1.len
  have len1 := h2.len
  clear h1 h2 ht
  go_enter Tryz.func56, Tryz.ntmps56
  go_wp2_with fail
  refine (text_any ao n capa q.num.natAbs _ R0_0.out (by omega) HT_0.out).mono ?_
  rintro e0 w0 ⟨rfl, hb0⟩
  have XA_1 := hid (XA_0.out.keep hb0)
  have R0_1 := hid (R0_0.out.below hb0)
  have R1_1 := hid (R1_0.out.below hb0)
  have HB_1 : Hid (Below w.heap.size w w0) := HB_0.out.trans (hb0.mono HB_0.out.size)
  have HT_1 := hid (HT_0.out.below hb0)
  have ltA := XA_1.out.lt
  have cA0 := XA_1.out.cell 0 _ rfl
  have cA1 := XA_1.out.cell 1 _ rfl
  have cA2 := XA_1.out.cell 2 _ rfl
  clear hb0
  have hl0 : (decDigits q.num.natAbs).length ≤ 200000 := Nat.le_trans (dec_len_of _ n len0) (by omega)
  have hl1 : (decDigits q.den).length ≤ 200000 := Nat.le_trans (dec_len_of _ m len1) (by omega)
  go_wp2_with fail
  refine (one_any _).mono ?_
  rintro e1 w1 ⟨v1, rfl, ⟨oo, on, oc, rfl, hr1⟩, hb1⟩
  have XA_2 := hid (XA_1.out.keep hb1)
  have R0_2 := hid (R0_1.out.below hb1)
  have R1_2 := hid (R1_1.out.below hb1)
  have HB_2 : Hid (Below w.heap.size w w1) := HB_1.out.trans (hb1.mono HB_1.out.size)
  have HT_2 := hid (HT_1.out.below hb1)
  clear ltA cA0 cA1 cA2
  have ltA := XA_2.out.lt
  have cA0 := XA_2.out.cell 0 _ rfl
  have cA1 := XA_2.out.cell 1 _ rfl
  have cA2 := XA_2.out.cell 2 _ rfl
  have Ro_2 := hid hr1
  have leno : on = 1 := hr1.len.symm.trans (by rw [limbs_one]; rfl)
  have leno2 : on ≤ 1 := by omega
  clear hb1 hr1 leno
  have YA_2 := hid (bx_past XA_2.out (.cells #[.slice oo on oc] 88))
  have Yo_2 := hid (bx_new w1 #[.slice oo on oc] 88)
  have Q0_2 := hid (R0_2.out.alloc (.cells #[.slice oo on oc] 88))
  have Q1_2 := hid (R1_2.out.alloc (.cells #[.slice oo on oc] 88))
  have Qo_2 := hid (Ro_2.out.alloc (.cells #[.slice oo on oc] 88))
  have HC_2 : Hid (Below w.heap.size w (w1.alloc (.cells #[.slice oo on oc] 88))) := HB_2.out.alloc HB_2.out.size (.cells #[.slice oo on oc] 88)
  have HU_2 := hid (HT_2.out.below ((Below.refl _ _).alloc (Nat.le_refl _) (.cells #[.slice oo on oc] 88)))
  go_wp2_with fail
  refine (compare_any bo oo m capb on oc q.den 1 _ Q1_2.out Qo_2.out (by omega) (by omega)).mono ?_
  rintro e2 w2 ⟨rfl, hb2⟩
  have XA_3 := hid (YA_2.out.keep hb2)
  have Xo_3 := hid (Yo_2.out.keep hb2)
  have R0_3 := hid (Q0_2.out.below hb2)
  have R1_3 := hid (Q1_2.out.below hb2)
  have Ro_3 := hid (Qo_2.out.below hb2)
  have HB_3 : Hid (Below w.heap.size w w2) := HC_2.out.trans (hb2.mono HC_2.out.size)
  have HT_3 := hid (HU_2.out.below hb2)
  clear ltA cA0 cA1 cA2
  have ltA := XA_3.out.lt
  have cA0 := XA_3.out.cell 0 _ rfl
  have cA1 := XA_3.out.cell 1 _ rfl
  have cA2 := XA_3.out.cell 2 _ rfl
  have lto := Xo_3.out.lt
  have co0 := Xo_3.out.cell 0 _ rfl
  rw [hc.out]
  clear hb2
  go_wp2
  go_ret
  refine ⟨?_, HB_3.out⟩
  show Ending.returned (.string _) = _
  congr 2
  apply bytes_ext
  simp [txt, hn'.out, hd'.out, ByteArray.data_append]

set_option maxHeartbeats 2000000 in
set_option maxRecDepth 20000 in
theorem rtext_false_more (ao bo : Option Addr) (n capa m capb : Nat) (q : Rat) (w : World) (h1 : Row w ao n capa (limbs q.num.natAbs)) (h2 : Row w bo m capb (limbs q.den)) (b1 : n ≤ 30000) (b2 : m ≤ 30000) (ht : Tab w) (hn : negB q = false) (hd : 1 < q.den) :
    Calls Tryz.prog 56 #[.agg #[.bool false, .slice ao n capa, .slice bo m capb]] w fun e w' => e = .returned (.string ⟨(txt q).toArray⟩) ∧ Below w.heap.size w w' := by
  have hn' := hid hn
  have hd' := hid hd
  have hc : Hid (cmp3 (q.den : Int) ((1 : Nat) : Int) = 1) := by show _ = _; unfold cmp3; rw [if_neg (by omega), if_neg (by omega)]
  clear hn hd
  have XA_0 := hid (bx_new w #[.bool false, .slice ao n capa, .slice bo m capb] 90)
  have HB_0 := hid ((Below.refl _ w).alloc (Nat.le_refl _) (.cells #[.bool false, .slice ao n capa, .slice bo m capb] 90))
  have R0_0 := hid (h1.below HB_0.out)
  have R1_0 := hid (h2.below HB_0.out)
  have HT_0 := hid (ht.below HB_0.out)
  have len0 := h1.len
  have len1 := h2.len
  clear h1 h2 ht
  go_enter Tryz.func56, Tryz.ntmps56
  go_wp2_with fail
  refine (text_any ao n capa q.num.natAbs _ R0_0.out (by omega) HT_0.out).mono ?_
  rintro e0 w0 ⟨rfl, hb0⟩
  have XA_1 := hid (XA_0.out.keep hb0)
  have R0_1 := hid (R0_0.out.below hb0)
  have R1_1 := hid (R1_0.out.below hb0)
  have HB_1 : Hid (Below w.heap.size w w0) := HB_0.out.trans (hb0.mono HB_0.out.size)
  have HT_1 := hid (HT_0.out.below hb0)
  have ltA := XA_1.out.lt
  have cA0 := XA_1.out.cell 0 _ rfl
  have cA1 := XA_1.out.cell 1 _ rfl
  have cA2 := XA_1.out.cell 2 _ rfl
  clear hb0
  have hl0 : (decDigits q.num.natAbs).length ≤ 200000 := Nat.le_trans (dec_len_of _ n len0) (by omega)
  have hl1 : (decDigits q.den).length ≤ 200000 := Nat.le_trans (dec_len_of _ m len1) (by omega)
  go_wp2_with fail
  refine (one_any _).mono ?_
  rintro e1 w1 ⟨v1, rfl, ⟨oo, on, oc, rfl, hr1⟩, hb1⟩
  have XA_2 := hid (XA_1.out.keep hb1)
  have R0_2 := hid (R0_1.out.below hb1)
  have R1_2 := hid (R1_1.out.below hb1)
  have HB_2 : Hid (Below w.heap.size w w1) := HB_1.out.trans (hb1.mono HB_1.out.size)
  have HT_2 := hid (HT_1.out.below hb1)
  clear ltA cA0 cA1 cA2
  have ltA := XA_2.out.lt
  have cA0 := XA_2.out.cell 0 _ rfl
  have cA1 := XA_2.out.cell 1 _ rfl
  have cA2 := XA_2.out.cell 2 _ rfl
  have Ro_2 := hid hr1
  have leno : on = 1 := hr1.len.symm.trans (by rw [limbs_one]; rfl)
  have leno2 : on ≤ 1 := by omega
  clear hb1 hr1 leno
  have YA_2 := hid (bx_past XA_2.out (.cells #[.slice oo on oc] 88))
  have Yo_2 := hid (bx_new w1 #[.slice oo on oc] 88)
  have Q0_2 := hid (R0_2.out.alloc (.cells #[.slice oo on oc] 88))
  have Q1_2 := hid (R1_2.out.alloc (.cells #[.slice oo on oc] 88))
  have Qo_2 := hid (Ro_2.out.alloc (.cells #[.slice oo on oc] 88))
  have HC_2 : Hid (Below w.heap.size w (w1.alloc (.cells #[.slice oo on oc] 88))) := HB_2.out.alloc HB_2.out.size (.cells #[.slice oo on oc] 88)
  have HU_2 := hid (HT_2.out.below ((Below.refl _ _).alloc (Nat.le_refl _) (.cells #[.slice oo on oc] 88)))
  go_wp2_with fail
  refine (compare_any bo oo m capb on oc q.den 1 _ Q1_2.out Qo_2.out (by omega) (by omega)).mono ?_
  rintro e2 w2 ⟨rfl, hb2⟩
  have XA_3 := hid (YA_2.out.keep hb2)
  have Xo_3 := hid (Yo_2.out.keep hb2)
  have R0_3 := hid (Q0_2.out.below hb2)
  have R1_3 := hid (Q1_2.out.below hb2)
  have Ro_3 := hid (Qo_2.out.below hb2)
  have HB_3 : Hid (Below w.heap.size w w2) := HC_2.out.trans (hb2.mono HC_2.out.size)
  have HT_3 := hid (HU_2.out.below hb2)
  clear ltA cA0 cA1 cA2
  have ltA := XA_3.out.lt
  have cA0 := XA_3.out.cell 0 _ rfl
  have cA1 := XA_3.out.cell 1 _ rfl
  have cA2 := XA_3.out.cell 2 _ rfl
  have lto := Xo_3.out.lt
  have co0 := Xo_3.out.cell 0 _ rfl
  rw [hc.out]
  clear hb2
  go_wp2_with fail
  refine (text_any bo m capb q.den _ R1_3.out (by omega) HT_3.out).mono ?_
  rintro e3 w3 ⟨rfl, hb3⟩
  have XA_4 := hid (XA_3.out.keep hb3)
  have Xo_4 := hid (Xo_3.out.keep hb3)
  have R0_4 := hid (R0_3.out.below hb3)
  have R1_4 := hid (R1_3.out.below hb3)
  have Ro_4 := hid (Ro_3.out.below hb3)
  have HB_4 : Hid (Below w.heap.size w w3) := HB_3.out.trans (hb3.mono HB_3.out.size)
  have HT_4 := hid (HT_3.out.below hb3)
  clear ltA cA0 cA1 cA2 lto co0
  have ltA := XA_4.out.lt
  have cA0 := XA_4.out.cell 0 _ rfl
  have cA1 := XA_4.out.cell 1 _ rfl
  have cA2 := XA_4.out.cell 2 _ rfl
  have lto := Xo_4.out.lt
  have co0 := Xo_4.out.cell 0 _ rfl
  clear hb3
  go_wp2
  go_ret
  refine ⟨?_, HB_4.out⟩
  show Ending.returned (.string _) = _
  congr 2
  apply bytes_ext
  simp [txt, hn'.out, hd'.out, ByteArray.data_append]

set_option maxHeartbeats 2000000 in
set_option maxRecDepth 20000 in
theorem rtext_true_one (ao bo : Option Addr) (n capa m capb : Nat) (q : Rat) (w : World) (h1 : Row w ao n capa (limbs q.num.natAbs)) (h2 : Row w bo m capb (limbs q.den)) (b1 : n ≤ 30000) (b2 : m ≤ 30000) (ht : Tab w) (hn : negB q = true) (hd : q.den = 1) :
    Calls Tryz.prog 56 #[.agg #[.bool true, .slice ao n capa, .slice bo m capb]] w fun e w' => e = .returned (.string ⟨(txt q).toArray⟩) ∧ Below w.heap.size w w' := by
  have hn' := hid hn
  have hd' := hid hd
  have hc : Hid (cmp3 (q.den : Int) ((1 : Nat) : Int) = 0) := by show _ = _; unfold cmp3; rw [if_neg (by omega), if_pos (by omega)]
  clear hn hd
  have XA_0 := hid (bx_new w #[.bool true, .slice ao n capa, .slice bo m capb] 90)
  have HB_0 := hid ((Below.refl _ w).alloc (Nat.le_refl _) (.cells #[.bool true, .slice ao n capa, .slice bo m capb] 90))
  have R0_0 := hid (h1.below HB_0.out)
  have R1_0 := hid (h2.below HB_0.out)
  have HT_0 := hid (ht.below HB_0.out)
  have len0 := h1.len
  have len1 := h2.len
  clear h1 h2 ht
  go_enter Tryz.func56, Tryz.ntmps56
  go_wp2_with fail
  refine (text_any ao n capa q.num.natAbs _ R0_0.out (by omega) HT_0.out).mono ?_
  rintro e0 w0 ⟨rfl, hb0⟩
  have XA_1 := hid (XA_0.out.keep hb0)
  have R0_1 := hid (R0_0.out.below hb0)
  have R1_1 := hid (R1_0.out.below hb0)
  have HB_1 : Hid (Below w.heap.size w w0) := HB_0.out.trans (hb0.mono HB_0.out.size)
  have HT_1 := hid (HT_0.out.below hb0)
  have ltA := XA_1.out.lt
  have cA0 := XA_1.out.cell 0 _ rfl
  have cA1 := XA_1.out.cell 1 _ rfl
  have cA2 := XA_1.out.cell 2 _ rfl
  clear hb0
  have hl0 : (decDigits q.num.natAbs).length ≤ 200000 := Nat.le_trans (dec_len_of _ n len0) (by omega)
  have hl1 : (decDigits q.den).length ≤ 200000 := Nat.le_trans (dec_len_of _ m len1) (by omega)
  go_wp2_with fail
  refine (one_any _).mono ?_
  rintro e1 w1 ⟨v1, rfl, ⟨oo, on, oc, rfl, hr1⟩, hb1⟩
  have XA_2 := hid (XA_1.out.keep hb1)
  have R0_2 := hid (R0_1.out.below hb1)
  have R1_2 := hid (R1_1.out.below hb1)
  have HB_2 : Hid (Below w.heap.size w w1) := HB_1.out.trans (hb1.mono HB_1.out.size)
  have HT_2 := hid (HT_1.out.below hb1)
  clear ltA cA0 cA1 cA2
  have ltA := XA_2.out.lt
  have cA0 := XA_2.out.cell 0 _ rfl
  have cA1 := XA_2.out.cell 1 _ rfl
  have cA2 := XA_2.out.cell 2 _ rfl
  have Ro_2 := hid hr1
  have leno : on = 1 := hr1.len.symm.trans (by rw [limbs_one]; rfl)
  have leno2 : on ≤ 1 := by omega
  clear hb1 hr1 leno
  have YA_2 := hid (bx_past XA_2.out (.cells #[.slice oo on oc] 88))
  have Yo_2 := hid (bx_new w1 #[.slice oo on oc] 88)
  have Q0_2 := hid (R0_2.out.alloc (.cells #[.slice oo on oc] 88))
  have Q1_2 := hid (R1_2.out.alloc (.cells #[.slice oo on oc] 88))
  have Qo_2 := hid (Ro_2.out.alloc (.cells #[.slice oo on oc] 88))
  have HC_2 : Hid (Below w.heap.size w (w1.alloc (.cells #[.slice oo on oc] 88))) := HB_2.out.alloc HB_2.out.size (.cells #[.slice oo on oc] 88)
  have HU_2 := hid (HT_2.out.below ((Below.refl _ _).alloc (Nat.le_refl _) (.cells #[.slice oo on oc] 88)))
  go_wp2_with fail
  refine (compare_any bo oo m capb on oc q.den 1 _ Q1_2.out Qo_2.out (by omega) (by omega)).mono ?_
  rintro e2 w2 ⟨rfl, hb2⟩
  have XA_3 := hid (YA_2.out.keep hb2)
  have Xo_3 := hid (Yo_2.out.keep hb2)
  have R0_3 := hid (Q0_2.out.below hb2)
  have R1_3 := hid (Q1_2.out.below hb2)
  have Ro_3 := hid (Qo_2.out.below hb2)
  have HB_3 : Hid (Below w.heap.size w w2) := HC_2.out.trans (hb2.mono HC_2.out.size)
  have HT_3 := hid (HU_2.out.below hb2)
  clear ltA cA0 cA1 cA2
  have ltA := XA_3.out.lt
  have cA0 := XA_3.out.cell 0 _ rfl
  have cA1 := XA_3.out.cell 1 _ rfl
  have cA2 := XA_3.out.cell 2 _ rfl
  have lto := Xo_3.out.lt
  have co0 := Xo_3.out.cell 0 _ rfl
  rw [hc.out]
  clear hb2
  go_wp2
  go_ret
  refine ⟨?_, HB_3.out⟩
  show Ending.returned (.string _) = _
  congr 2
  apply bytes_ext
  simp [txt, hn'.out, hd'.out, ByteArray.data_append]

set_option maxHeartbeats 2000000 in
set_option maxRecDepth 20000 in
theorem rtext_true_more (ao bo : Option Addr) (n capa m capb : Nat) (q : Rat) (w : World) (h1 : Row w ao n capa (limbs q.num.natAbs)) (h2 : Row w bo m capb (limbs q.den)) (b1 : n ≤ 30000) (b2 : m ≤ 30000) (ht : Tab w) (hn : negB q = true) (hd : 1 < q.den) :
    Calls Tryz.prog 56 #[.agg #[.bool true, .slice ao n capa, .slice bo m capb]] w fun e w' => e = .returned (.string ⟨(txt q).toArray⟩) ∧ Below w.heap.size w w' := by
  have hn' := hid hn
  have hd' := hid hd
  have hc : Hid (cmp3 (q.den : Int) ((1 : Nat) : Int) = 1) := by show _ = _; unfold cmp3; rw [if_neg (by omega), if_neg (by omega)]
  clear hn hd
  have XA_0 := hid (bx_new w #[.bool true, .slice ao n capa, .slice bo m capb] 90)
  have HB_0 := hid ((Below.refl _ w).alloc (Nat.le_refl _) (.cells #[.bool true, .slice ao n capa, .slice bo m capb] 90))
  have R0_0 := hid (h1.below HB_0.out)
  have R1_0 := hid (h2.below HB_0.out)
  have HT_0 := hid (ht.below HB_0.out)
  have len0 := h1.len
  have len1 := h2.len
  clear h1 h2 ht
  go_enter Tryz.func56, Tryz.ntmps56
  go_wp2_with fail
  refine (text_any ao n capa q.num.natAbs _ R0_0.out (by omega) HT_0.out).mono ?_
  rintro e0 w0 ⟨rfl, hb0⟩
  have XA_1 := hid (XA_0.out.keep hb0)
  have R0_1 := hid (R0_0.out.below hb0)
  have R1_1 := hid (R1_0.out.below hb0)
  have HB_1 : Hid (Below w.heap.size w w0) := HB_0.out.trans (hb0.mono HB_0.out.size)
  have HT_1 := hid (HT_0.out.below hb0)
  have ltA := XA_1.out.lt
  have cA0 := XA_1.out.cell 0 _ rfl
  have cA1 := XA_1.out.cell 1 _ rfl
  have cA2 := XA_1.out.cell 2 _ rfl
  clear hb0
  have hl0 : (decDigits q.num.natAbs).length ≤ 200000 := Nat.le_trans (dec_len_of _ n len0) (by omega)
  have hl1 : (decDigits q.den).length ≤ 200000 := Nat.le_trans (dec_len_of _ m len1) (by omega)
  go_wp2_with fail
  refine (one_any _).mono ?_
  rintro e1 w1 ⟨v1, rfl, ⟨oo, on, oc, rfl, hr1⟩, hb1⟩
  have XA_2 := hid (XA_1.out.keep hb1)
  have R0_2 := hid (R0_1.out.below hb1)
  have R1_2 := hid (R1_1.out.below hb1)
  have HB_2 : Hid (Below w.heap.size w w1) := HB_1.out.trans (hb1.mono HB_1.out.size)
  have HT_2 := hid (HT_1.out.below hb1)
  clear ltA cA0 cA1 cA2
  have ltA := XA_2.out.lt
  have cA0 := XA_2.out.cell 0 _ rfl
  have cA1 := XA_2.out.cell 1 _ rfl
  have cA2 := XA_2.out.cell 2 _ rfl
  have Ro_2 := hid hr1
  have leno : on = 1 := hr1.len.symm.trans (by rw [limbs_one]; rfl)
  have leno2 : on ≤ 1 := by omega
  clear hb1 hr1 leno
  have YA_2 := hid (bx_past XA_2.out (.cells #[.slice oo on oc] 88))
  have Yo_2 := hid (bx_new w1 #[.slice oo on oc] 88)
  have Q0_2 := hid (R0_2.out.alloc (.cells #[.slice oo on oc] 88))
  have Q1_2 := hid (R1_2.out.alloc (.cells #[.slice oo on oc] 88))
  have Qo_2 := hid (Ro_2.out.alloc (.cells #[.slice oo on oc] 88))
  have HC_2 : Hid (Below w.heap.size w (w1.alloc (.cells #[.slice oo on oc] 88))) := HB_2.out.alloc HB_2.out.size (.cells #[.slice oo on oc] 88)
  have HU_2 := hid (HT_2.out.below ((Below.refl _ _).alloc (Nat.le_refl _) (.cells #[.slice oo on oc] 88)))
  go_wp2_with fail
  refine (compare_any bo oo m capb on oc q.den 1 _ Q1_2.out Qo_2.out (by omega) (by omega)).mono ?_
  rintro e2 w2 ⟨rfl, hb2⟩
  have XA_3 := hid (YA_2.out.keep hb2)
  have Xo_3 := hid (Yo_2.out.keep hb2)
  have R0_3 := hid (Q0_2.out.below hb2)
  have R1_3 := hid (Q1_2.out.below hb2)
  have Ro_3 := hid (Qo_2.out.below hb2)
  have HB_3 : Hid (Below w.heap.size w w2) := HC_2.out.trans (hb2.mono HC_2.out.size)
  have HT_3 := hid (HU_2.out.below hb2)
  clear ltA cA0 cA1 cA2
  have ltA := XA_3.out.lt
  have cA0 := XA_3.out.cell 0 _ rfl
  have cA1 := XA_3.out.cell 1 _ rfl
  have cA2 := XA_3.out.cell 2 _ rfl
  have lto := Xo_3.out.lt
  have co0 := Xo_3.out.cell 0 _ rfl
  rw [hc.out]
  clear hb2
  go_wp2_with fail
  refine (text_any bo m capb q.den _ R1_3.out (by omega) HT_3.out).mono ?_
  rintro e3 w3 ⟨rfl, hb3⟩
  have XA_4 := hid (XA_3.out.keep hb3)
  have Xo_4 := hid (Xo_3.out.keep hb3)
  have R0_4 := hid (R0_3.out.below hb3)
  have R1_4 := hid (R1_3.out.below hb3)
  have Ro_4 := hid (Ro_3.out.below hb3)
  have HB_4 : Hid (Below w.heap.size w w3) := HB_3.out.trans (hb3.mono HB_3.out.size)
  have HT_4 := hid (HT_3.out.below hb3)
  clear ltA cA0 cA1 cA2 lto co0
  have ltA := XA_4.out.lt
  have cA0 := XA_4.out.cell 0 _ rfl
  have cA1 := XA_4.out.cell 1 _ rfl
  have cA2 := XA_4.out.cell 2 _ rfl
  have lto := Xo_4.out.lt
  have co0 := Xo_4.out.cell 0 _ rfl
  clear hb3
  go_wp2
  go_ret
  refine ⟨?_, HB_4.out⟩
  show Ending.returned (.string _) = _
  congr 2
  apply bytes_ext
  simp [txt, hn'.out, hd'.out, ByteArray.data_append]

theorem rtext_any (ao bo : Option Addr) (n capa m capb : Nat) (q : Rat) (w : World) (h1 : Row w ao n capa (limbs q.num.natAbs)) (h2 : Row w bo m capb (limbs q.den)) (b1 : n ≤ 30000) (b2 : m ≤ 30000) (ht : Tab w) :
    Calls Tryz.prog 56 #[.agg #[.bool (negB q), .slice ao n capa, .slice bo m capb]] w fun e w' => e = .returned (.string ⟨(txt q).toArray⟩) ∧ Below w.heap.size w w' := by
  have hd := den_pos q
  by_cases h : q.den = 1 <;> cases hn : negB q
  · exact rtext_false_one ao bo n capa m capb q w h1 h2 b1 b2 ht hn h
  · exact rtext_true_one ao bo n capa m capb q w h1 h2 b1 b2 ht hn h
  · exact rtext_false_more ao bo n capa m capb q w h1 h2 b1 b2 ht hn (by omega)
  · exact rtext_true_more ao bo n capa m capb q w h1 h2 b1 b2 ht hn (by omega)
end Go.Proofs.YtigokanoflkinaaGreatDoor
