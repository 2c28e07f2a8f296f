/- ratio.lowest: a fraction brought to lowest terms. -/
import Derived.Test.YtddbflggcblfcaaDoorWGcd
import Derived.Test.YtddbflggcblfcaaDoorRatA
import Derived.Deep.RegionWith
import Derived.Deep.RegionHeld3
namespace Go.Proofs.YtddbflggcblfcaaDoor
set_option linter.unusedSimpArgs false
set_option linter.unusedVariables false
open Go.RowKit Por

/-- A fraction of package ratio in memory. -/
def Frac (w : World) (v : Value) (q : Rat) : Prop := ∃ ao n capa bo m capb, v = .agg #[.bool (negB q), .slice ao n capa, .slice bo m capb] ∧ Row w ao n capa (limbs q.num.natAbs) ∧ Row w bo m capb (limbs q.den)

theorem Frac.below {w w' : World} {v : Value} {q : Rat} (h : Frac w v q) (hb : Below w.heap.size w w') : Frac w' v q := by
  obtain ⟨ao, n, capa, bo, m, capb, rfl, h1, h2⟩ := h
  exact ⟨ao, n, capa, bo, m, capb, rfl, h1.below hb, h2.below hb⟩

theorem Bx.keep {w w' : World} {b : Nat} {cs : Array Value} {T : TypeId} (h : Bx w b cs T) (hb : Below w.heap.size w w') : Bx w' b cs T := h.below hb h.lt

theorem Row.drew {w : World} {ao : Option Addr} {n cap : Nat} {xs : List Int} (h : Row w ao n cap xs) : Row w.drew ao n cap xs := h.below (Below.refl _ _).drew
theorem Bx.drew {w : World} {b : Nat} {cs : Array Value} {T : TypeId} (h : Bx w b cs T) : Bx w.drew b cs T := h

/-- a box of three cells, written whole -/
def wput3 (w : World) (b : Nat) (u0 u1 u2 : Value) : World := ((w.setCell ⟨b, 0, none⟩ u0).setCell ⟨b, 1, none⟩ u1).setCell ⟨b, 2, none⟩ u2
theorem Bx.put3 {w : World} {b : Nat} {x0 x1 x2 : Value} {T : TypeId} (h : Bx w b #[x0, x1, x2] T) (u0 u1 u2 : Value) : Bx (wput3 w b u0 u1 u2) b #[u0, u1, u2] T := by
  unfold Bx wput3
  have h1 := heap_setCell_same w b 0 _ _ u0 h
  have h2 := heap_setCell_same _ b 1 _ _ u1 h1
  have h3 := heap_setCell_same _ b 2 _ _ u2 h2
  rw [h3]; rfl
theorem Row.put3 {w : World} {ao : Option Addr} {n cap : Nat} {xs : List Int} (h : Row w ao n cap xs) {b : Nat} {x0 x1 x2 : Value} {T : TypeId} (hx : Bx w b #[x0, x1, x2] T) (hT : T ≠ 3) (u0 u1 u2 : Value) : Row (wput3 w b u0 u1 u2) ao n cap xs := by
  have h1 := heap_setCell_same w b 0 _ _ u0 hx
  have h2 := heap_setCell_same _ b 1 _ _ u1 h1
  exact ((h.other b 0 u0 hx hT).other b 1 u1 h1 hT).other b 2 u2 h2 hT
theorem below_put3 {B : Nat} {a w : World} (h : Below B a w) {b : Nat} (hb : B ≤ b) (u0 u1 u2 : Value) : Below B a (wput3 w b u0 u1 u2) := ((h.setCell hb u0).setCell hb u1).setCell hb u2
theorem Bx.put3_other {w : World} {b g : Nat} {cs : Array Value} {T : TypeId} (h : Bx w g cs T) (u0 u1 u2 : Value) (hne : b ≠ g) : Bx (wput3 w b u0 u1 u2) g cs T :=
  ((Bx.other h ⟨b, 0, none⟩ u0 hne).other ⟨b, 1, none⟩ u1 hne).other ⟨b, 2, none⟩ u2 hne

theorem cell_put3 {w : World} {b g i : Nat} {u0 u1 u2 : Value} (h : g ≠ b) : (wput3 w b u0 u1 u2).cell? ⟨g, i, none⟩ = w.cell? ⟨g, i, none⟩ := by
  unfold wput3
  have e : ∀ (w : World) (j : Nat) (u : Value), (w.setCell ⟨b, j, none⟩ u).cell? ⟨g, i, none⟩ = w.cell? ⟨g, i, none⟩ := fun w j u => World.cell?_of_block (Below.heap_setCell w _ u g h)
  rw [e, e, e]

theorem Row.len_le {w : World} {ao : Option Addr} {n cap x y : Nat} (h : Row w ao n cap (limbs x)) (hxy : x ≤ y) : n ≤ (limbs y).length := by rw [← h.len]; exact len_mono hxy

set_option maxHeartbeats 1000000 in
theorem lowest_any (m : Bool) (ao bo : Option Addr) (n capa k capb : Nat) (x y : Nat) (w : World) (hr : Row w ao n capa (limbs x)) (hs : Row w bo k capb (limbs y)) (hn : n ≤ 40000) (hm : k ≤ 40000) (hy : y ≠ 0) :
    Calls Tryd.prog 88 #[.bool m, .agg #[.slice ao n capa], .agg #[.slice bo k capb]] w fun e w' => ∃ v, e = .returned v ∧ Frac w' v (mkRat (sg m x) y) ∧ Below w.heap.size w w' := by
  obtain ⟨c1, c2, c3, c5⟩ := boxes3 w #[.slice ao n capa] #[.slice bo k capb] #[.bool false, .slice none 0 0, .slice none 0 0] 74 74 76
  have hr1 := hid (hr.below c5)
  have hs1 := hid (hs.below c5)
  have ly := hid hs.len
  have lx := hid hr.len
  have H5 := hid c5
  have X1 := hid c1
  have X2 := hid c2
  have X3 := hid c3
  have HE := hid (low_eq m x y hy)
  clear hr hs c5 c1 c2 c3
  go_enter Tryd.func88, Tryd.ntmps88
  go_wp2_with fail
  refine (gcd_any ao bo n capa k capb x y _ hr1.out hs1.out hn hm).mono ?_
  rintro e w1 ⟨v, rfl, ⟨go, gn, gcap, rfl, hg⟩, hb1⟩
  have s1 := hb1.size
  simp only [World.size_alloc] at s1
  have A1 := hid (X1.out.keep hb1)
  have A2 := hid (X2.out.keep hb1)
  have A3 := hid (X3.out.keep hb1)
  have a1 := A1.out.cell 0 _ rfl
  have hra := hid (hr1.out.below hb1)
  have hsa := hid (hs1.out.below hb1)
  have HB1 : Hid (Below w.heap.size w w1) := H5.out.trans (hb1.mono (by simp; omega))
  have HG := hid hg
  have hgn : gn ≤ 40000 := by
    have h1 := hg.len
    have h2 := @len_mono (Nat.gcd x y) y (Nat.gcd_le_right x (by omega))
    have h3 := ly.out
    omega
  have p1 : w.heap.size < w1.heap.size := by omega
  have p2 : w.heap.size + 1 < w1.heap.size := by omega
  have p3 : w.heap.size + 1 + 1 < w1.heap.size := by omega
  clear hb1 hg hr1 hs1 X1 X2 X3 H5
  have ha := (Below.refl w1.heap.size w1).alloc (Nat.le_refl _) (.cells #[.slice go gn gcap] 74)
  have C1 := hid (bx_past A1.out (.cells #[.slice go gn gcap] 74))
  have C2 := hid (bx_past A2.out (.cells #[.slice go gn gcap] 74))
  have C3 := hid (bx_past A3.out (.cells #[.slice go gn gcap] 74))
  have C4 := hid (bx_new w1 #[.slice go gn gcap] 74)
  have hrc := hid (hra.out.below ha)
  have hsc := hid (hsa.out.below ha)
  have hgc := hid (HG.out.below ha)
  have HA := hid ha
  clear ha
  go_wp2_with fail
  refine (quotient_any ao go n capa gn gcap x (Nat.gcd x y) _ hrc.out hgc.out hn hgn).mono ?_
  rintro e w2 ⟨v, rfl, ⟨ro, rn, rcap, rfl, hq⟩, hb2⟩
  have s2 := hb2.size
  simp only [World.size_alloc] at s2
  have D1 := hid (C1.out.keep hb2)
  have D2 := hid (C2.out.keep hb2)
  have D3 := hid (C3.out.keep hb2)
  have D4 := hid (C4.out.keep hb2)
  have d1 := D1.out.cell 0 _ rfl
  have d1f := D1.out.frozen 0
  have d2 := D2.out.cell 0 _ rfl
  have d4 := D4.out.cell 0 _ rfl
  have hsd := hid (hsc.out.below hb2)
  have hgd := hid (hgc.out.below hb2)
  have HQ := hid hq
  have HB2 : Hid (Below w.heap.size w w2) := HB1.out.trans ((HA.out.mono (by omega)).trans (hb2.mono (by simp; omega)))
  clear hb2 hq a1 A1 A2 A3 HG hra hsa
  have E2 := hid (D2.out.other ⟨w.heap.size, 0, none⟩ (.slice ro rn rcap) (by show w.heap.size ≠ w.heap.size + 1; omega))
  have E3 := hid (D3.out.other ⟨w.heap.size, 0, none⟩ (.slice ro rn rcap) (by show w.heap.size ≠ w.heap.size + 1 + 1; omega))
  have E1 := hid (D1.out.set (.slice ro rn rcap))
  have hse := hid (hsd.out.other w.heap.size 0 (.slice ro rn rcap) D1.out (by decide))
  have hge := hid (hgd.out.other w.heap.size 0 (.slice ro rn rcap) D1.out (by decide))
  have hqe := hid (HQ.out.other w.heap.size 0 (.slice ro rn rcap) D1.out (by decide))
  have p4 : w.heap.size ≠ w1.heap.size := by omega
  go_wp2_with fail
  refine (quotient_any bo go k capb gn gcap y (Nat.gcd x y) _ hse.out hge.out hm hgn).mono ?_
  rintro e w3 ⟨v, rfl, ⟨so, sn, scap, rfl, hq3⟩, hb3⟩
  have s3 := hb3.size
  have F1 := hid (E1.out.keep hb3)
  have F2 := hid (E2.out.keep hb3)
  have F3 := hid (E3.out.keep hb3)
  have f1 := F1.out.cell 0 _ rfl
  have f2 := F2.out.cell 0 _ rfl
  have f2f := F2.out.frozen 0
  have HB3 : Hid (Below w.heap.size w w3) := (HB2.out.setCell (Nat.le_refl _) _).trans (hb3.mono (by simp [World.setCell]; omega))
  have hqf := hid (hqe.out.below hb3)
  have HQ3 := hid hq3
  clear hb3 hq3 d1 d1f d2 d4
  have G1 := hid (F1.out.other ⟨w.heap.size + 1, 0, none⟩ (.slice so sn scap) (by show w.heap.size + 1 ≠ w.heap.size; omega))
  have G2 := hid (F2.out.set (.slice so sn scap))
  have G3 := hid (F3.out.other ⟨w.heap.size + 1, 0, none⟩ (.slice so sn scap) (by show w.heap.size + 1 ≠ w.heap.size + 1 + 1; omega))
  have hqg := hid (hqf.out.other (w.heap.size + 1) 0 (.slice so sn scap) F2.out (by decide))
  have HQg := hid (HQ3.out.other (w.heap.size + 1) 0 (.slice so sn scap) F2.out (by decide))
  have HBg : Hid (Below w.heap.size w (w3.setCell ⟨w.heap.size + 1, 0, none⟩ (.slice so sn scap))) := HB3.out.setCell (by show w.heap.size ≤ w.heap.size + 1; omega) _
  obtain ⟨W, hW⟩ : ∃ W, W = w3.setCell ⟨w.heap.size + 1, 0, none⟩ (.slice so sn scap) := ⟨_, rfl⟩
  go_wp2_with fail
  rw [← hW] at G1 G2 G3 hqg HQg HBg ⊢
  have g1 := G1.out.cell 0 _ rfl
  have g2 := G2.out.cell 0 _ rfl
  have g3 := G3.out.cell 0 _ rfl
  have g4 := G3.out.cell 1 _ rfl
  have g5 := G3.out.cell 2 _ rfl
  have f3 := G3.out.frozen 0
  have f4 := G3.out.frozen 1
  have f5 := G3.out.frozen 2
  have hrn : rn ≤ 40000 := by
    have h1 := HQ.out.len
    have h2 := @len_mono (x / Nat.gcd x y) x (Nat.div_le_self x _)
    have h3 := lx.out
    omega
  clear hW f1 f2 f2f F1 F2 F3 E1 E2 E3 D1 D2 D3 D4 C1 C2 C3 C4 hqf HQ3 hse hge hqe hsd hgd HQ hrc hsc hgc HA HB3 HB2 HB1 p4 s3 s2 s1 hgn p1 p2 p3
  have HBs : w.heap.size ≤ w.heap.size + 1 + 1 := by omega
  cases m
  · go_region
    go_wp2
    have Z := (G3.out.put3 (.bool false) (.slice ro rn rcap) (.slice so sn scap)).drew
    have z0 := Z.cell 0 _ rfl
    have z1 := Z.cell 1 _ rfl
    have z2 := Z.cell 2 _ rfl
    unfold wput3 at z0 z1 z2
    refine bodyPost_ret (v := .agg #[.bool false, .slice ro rn rcap, .slice so sn scap]) (by simp [results, Tryd.results88, go_sem, z0, z1, z2]) rfl ⟨_, rfl, ⟨ro, rn, rcap, so, sn, scap, ?_, ?_, ?_⟩, ?_⟩
    · rw [HE.out.2.2]; rfl
    · rw [HE.out.1]; exact (hqg.out.put3 G3.out (by decide) _ _ _).drew
    · rw [HE.out.2.1]; exact (HQg.out.put3 G3.out (by decide) _ _ _).drew
    · exact (below_put3 HBg.out HBs _ _ _).drew
  · go_region_held3 (fun w' => w'.cell? ⟨w.heap.size, 0, none⟩ = some (.slice ro rn rcap) ∧ w'.cell? ⟨w.heap.size + 1, 0, none⟩ = some (.slice so sn scap)) (first | exact ⟨k1, k2⟩ | exact ⟨g1, g2⟩ | exact ⟨(cell_put3 (by omega)).trans k1, (cell_put3 (by omega)).trans k2⟩)
      (first | (go_at_call 100; refine (isZero_any ro rn rcap (x / Nat.gcd x y) _ (hqg.out.drew) (by omega)).mono ?_; rintro e w4 ⟨rfl, hb4⟩; have k1 := (G1.out.drew.keep hb4).cell 0 _ rfl; have k2 := (G2.out.drew.keep hb4).cell 0 _ rfl; have k3 := (G3.out.drew.keep hb4).cell 0 _ rfl; have k4 := (G3.out.drew.keep hb4).cell 1 _ rfl; have k5 := (G3.out.drew.keep hb4).cell 2 _ rfl; have j3 := (G3.out.drew.keep hb4).frozen 0; have j4 := (G3.out.drew.keep hb4).frozen 1; have j5 := (G3.out.drew.keep hb4).frozen 2; have Hb4 := hid hb4; clear hb4))
    go_wp2
    have Z := (G3.out.drew.keep Hb4.out).put3 (.bool (!isZ (x / Nat.gcd x y))) (.slice ro rn rcap) (.slice so sn scap)
    have z0 := Z.cell 0 _ rfl
    have z1 := Z.cell 1 _ rfl
    have z2 := Z.cell 2 _ rfl
    unfold wput3 at z0 z1 z2
    refine bodyPost_ret (v := .agg #[.bool (!isZ (x / Nat.gcd x y)), .slice ro rn rcap, .slice so sn scap]) (by simp [results, Tryd.results88, go_sem, z0, z1, z2]) rfl ⟨_, rfl, ⟨ro, rn, rcap, so, sn, scap, ?_, ?_, ?_⟩, ?_⟩
    · rw [HE.out.2.2]; rfl
    · rw [HE.out.1]; exact (hqg.out.drew.below Hb4.out).put3 (G3.out.drew.keep Hb4.out) (by decide) _ _ _
    · rw [HE.out.2.1]; exact (HQg.out.drew.below Hb4.out).put3 (G3.out.drew.keep Hb4.out) (by decide) _ _ _
    · exact below_put3 (HBg.out.drew.trans (Hb4.out.mono (by have := HBg.out.size; exact this))) HBs _ _ _
end Go.Proofs.YtddbflggcblfcaaDoor
