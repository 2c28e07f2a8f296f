/- ratio.Subtract: the difference of any two fractions. -/
import Derived.Test.YtddbflggcblfcaaDoorWRatB
namespace Go.Proofs.YtddbflggcblfcaaDoor
set_option linter.unusedSimpArgs false
set_option linter.unusedVariables false
open Go.RowKit Por

theorem neg_num (y : Rat) : (-y).num.natAbs = y.num.natAbs ∧ (-y).den = y.den ∧ negB (-y) = (!negB y && !isZ y.num.natAbs) := by
  have e1 : (-y).num = -y.num := rfl
  have e2 : (-y).den = y.den := rfl
  refine ⟨by rw [e1, Int.natAbs_neg], e2, ?_⟩
  unfold negB isZ
  rw [e1]
  rcases Int.lt_trichotomy y.num 0 with h | h | h
  · rw [decide_eq_false (by omega : ¬ -y.num < 0), decide_eq_true h]; rfl
  · rw [h]; rfl
  · rw [decide_eq_true (by omega : -y.num < 0), decide_eq_false (by omega : ¬ y.num < 0), beq_eq_false_iff_ne.2 (by omega : y.num.natAbs ≠ 0)]; rfl

theorem pc {w : World} {o : Obj} {b i : Nat} (h : b < w.heap.size) : (w.alloc o).cell? ⟨b, i, none⟩ = w.cell? ⟨b, i, none⟩ := World.cell?_of_block (Below.heap_alloc w o b h)

set_option maxHeartbeats 2000000 in
set_option maxRecDepth 20000 in
theorem rsub_any (ao bo co eo : Option Addr) (n capa m capb p capc q capd : Nat) (x y : Rat) (w : World) (h1 : Row w ao n capa (limbs x.num.natAbs)) (h2 : Row w bo m capb (limbs x.den)) (h3 : Row w co p capc (limbs y.num.natAbs)) (h4 : Row w eo q capd (limbs y.den)) (b1 : n ≤ 10000) (b2 : m ≤ 10000) (b3 : p ≤ 10000) (b4 : q ≤ 10000) :
    Calls Tryd.prog 56 #[.agg #[.bool (negB x), .slice ao n capa, .slice bo m capb], .agg #[.bool (negB y), .slice co p capc, .slice eo q capd]] w fun e w' => ∃ v, e = .returned v ∧ Frac w' v (x - y) ∧ Below w.heap.size w w' := by
  obtain ⟨c1, c2, c3, c5⟩ := boxes3 w #[.bool (negB x), .slice ao n capa, .slice bo m capb] #[.bool (negB y), .slice co p capc, .slice eo q capd] #[.bool false, .slice none 0 0, .slice none 0 0] 76 76 76
  obtain ⟨W, hW⟩ : ∃ W, W = ((w.alloc (.cells #[.bool (negB x), .slice ao n capa, .slice bo m capb] 76)).alloc (.cells #[.bool (negB y), .slice co p capc, .slice eo q capd] 76)).alloc (.cells #[.bool false, .slice none 0 0, .slice none 0 0] 76) := ⟨_, rfl⟩
  rw [← hW] at c1 c2 c3 c5
  have R0 := hid (h1.below c5)
  have R1 := hid (h2.below c5)
  have R2 := hid (h3.below c5)
  have R3 := hid (h4.below c5)
  have XA := hid c1
  have XB := hid c2
  have XR := hid c3
  have HB := hid c5
  have HW := hid hW
  have N := hid (neg_num y)
  clear h1 h2 h3 h4 c1 c2 c3 c5 hW
  go_enter Tryd.func56, Tryd.ntmps56
  go_wp2_with fail
  rw [← HW.out]
  have a0 := XA.out.cell 0 _ rfl
  have a1 := XA.out.cell 1 _ rfl
  have a2 := XA.out.cell 2 _ rfl
  have d0 := XB.out.cell 0 _ rfl
  have d1 := XB.out.cell 1 _ rfl
  have d2 := XB.out.cell 2 _ rfl
  have la := XA.out.lt
  have lb := XB.out.lt
  have lr := XR.out.lt
  cases hy : negB y
  · rw [hy] at XB d0
    obtain ⟨n1, n2, n3⟩ := N.out
    rw [hy] at n3
    have N1 := hid n1
    have N2 := hid n2
    have N3 : Hid (negB (-y) = !isZ y.num.natAbs) := n3
    clear n1 n2 n3 N
    go_region_held3 (fun w' => w'.cell? ⟨w.heap.size + 1, 0, none⟩ = some (.bool false) ∧ w'.cell? ⟨w.heap.size + 1, 1, none⟩ = some (.slice co p capc) ∧ w'.cell? ⟨w.heap.size + 1, 2, none⟩ = some (.slice eo q capd))
      (first | exact ⟨k0, k1, k2⟩ | exact ⟨d0, d1, d2⟩ | exact ⟨(pc kb).trans k0, (pc kb).trans k1, (pc kb).trans k2⟩ | exact ⟨(cell_put3 kn).trans k0, (cell_put3 kn).trans k1, (cell_put3 kn).trans k2⟩ | exact ⟨(pc lb).trans d0, (pc lb).trans d1, (pc lb).trans d2⟩)
      (first
        | (go_at_call 100; refine (isZero_any co p capc y.num.natAbs W.drew (R2.out.drew) (by omega)).mono ?_; rintro e w4 ⟨rfl, hb4⟩; have k0 := (XB.out.drew.keep hb4).cell 0 _ rfl; have k1 := (XB.out.drew.keep hb4).cell 1 _ rfl; have k2 := (XB.out.drew.keep hb4).cell 2 _ rfl; have kb := (XB.out.drew.keep hb4).lt; have Hb4 := hid hb4; clear hb4)
        | (go_at_call 100; refine (isZero_any co p capc y.num.natAbs (W.alloc (.cells #[.bool false, .slice none 0 0, .slice none 0 0] 76)).drew ((R2.out.alloc (.cells #[.bool false, .slice none 0 0, .slice none 0 0] 76)).drew) (by omega)).mono ?_; rintro e w4 ⟨rfl, hb5⟩; have k0 := ((bx_past XB.out (.cells #[.bool false, .slice none 0 0, .slice none 0 0] 76)).drew.keep hb5).cell 0 _ rfl; have k1 := ((bx_past XB.out (.cells #[.bool false, .slice none 0 0, .slice none 0 0] 76)).drew.keep hb5).cell 1 _ rfl; have k2 := ((bx_past XB.out (.cells #[.bool false, .slice none 0 0, .slice none 0 0] 76)).drew.keep hb5).cell 2 _ rfl; have kn : w.heap.size + 1 ≠ W.heap.size := Nat.ne_of_lt lb; have m0 := ((bx_new W #[.bool false, .slice none 0 0, .slice none 0 0] 76).drew.keep hb5).cell 0 _ rfl; have m1 := ((bx_new W #[.bool false, .slice none 0 0, .slice none 0 0] 76).drew.keep hb5).cell 1 _ rfl; have m2 := ((bx_new W #[.bool false, .slice none 0 0, .slice none 0 0] 76).drew.keep hb5).cell 2 _ rfl; have f0 := ((bx_new W #[.bool false, .slice none 0 0, .slice none 0 0] 76).drew.keep hb5).frozen 0; have f1 := ((bx_new W #[.bool false, .slice none 0 0, .slice none 0 0] 76).drew.keep hb5).frozen 1; have f2 := ((bx_new W #[.bool false, .slice none 0 0, .slice none 0 0] 76).drew.keep hb5).frozen 2; have Hb5 := hid hb5; clear hb5))
    · have V0 := bx_past (XA.out.drew.keep Hb4.out) (.cells #[.bool (!isZ y.num.natAbs), .slice co p capc, .slice eo q capd] 76)
      have V5 := bx_new w4 #[.bool (!isZ y.num.natAbs), .slice co p capc, .slice eo q capd] 76
      have VR := bx_past (XR.out.drew.keep Hb4.out) (.cells #[.bool (!isZ y.num.natAbs), .slice co p capc, .slice eo q capd] 76)
      have VA := hid V0
      have VF := hid V5
      have VS := hid VR
      have T0 := hid ((R0.out.drew.below Hb4.out).alloc (.cells #[.bool (!isZ y.num.natAbs), .slice co p capc, .slice eo q capd] 76))
      have T1 := hid ((R1.out.drew.below Hb4.out).alloc (.cells #[.bool (!isZ y.num.natAbs), .slice co p capc, .slice eo q capd] 76))
      have T2 := hid ((R2.out.drew.below Hb4.out).alloc (.cells #[.bool (!isZ y.num.natAbs), .slice co p capc, .slice eo q capd] 76))
      have T3 := hid ((R3.out.drew.below Hb4.out).alloc (.cells #[.bool (!isZ y.num.natAbs), .slice co p capc, .slice eo q capd] 76))
      have VB : Hid (Below w.heap.size w (w4.alloc (.cells #[.bool (!isZ y.num.natAbs), .slice co p capc, .slice eo q capd] 76))) := (HB.out.drew.trans (Hb4.out.mono HB.out.size)).alloc (Nat.le_trans HB.out.size Hb4.out.size) (.cells #[.bool (!isZ y.num.natAbs), .slice co p capc, .slice eo q capd] 76)
      clear V0 V5 VR
      have qA0 := VA.out.cell 0 _ rfl
      have qA1 := VA.out.cell 1 _ rfl
      have qA2 := VA.out.cell 2 _ rfl
      have qF0 := VF.out.cell 0 _ rfl
      have qF1 := VF.out.cell 1 _ rfl
      have qF2 := VF.out.cell 2 _ rfl
      go_wp2_with fail
      have C := radd_any ao bo co eo n capa m capb p capc q capd x (-y) (w4.alloc (.cells #[.bool (!isZ y.num.natAbs), .slice co p capc, .slice eo q capd] 76)) T0.out T1.out (by rw [N1.out]; exact T2.out) (by rw [N2.out]; exact T3.out) b1 b2 b3 b4
      rw [N3.out] at C
      refine C.mono ?_
      rintro e w5 ⟨v, rfl, ⟨go, gn, gc, ho, hn, hc, rfl, hg, hh⟩, hb5⟩
      have VZ := hid (VS.out.keep hb5)
      have VC : Hid (Below w.heap.size w w5) := VB.out.trans (hb5.mono VB.out.size)
      have s0 := VZ.out.cell 0 _ rfl
      have t0 := VZ.out.frozen 0
      have s1 := VZ.out.cell 1 _ rfl
      have t1 := VZ.out.frozen 1
      have s2 := VZ.out.cell 2 _ rfl
      have t2 := VZ.out.frozen 2
      have HG := hid hg
      have HH := hid hh
      clear C hb5 hg hh
      go_wp2
      have Z := VZ.out.put3 (.bool (negB (x + -y))) (.slice go gn gc) (.slice ho hn hc)
      have z0 := Z.cell 0 _ rfl
      have z1 := Z.cell 1 _ rfl
      have z2 := Z.cell 2 _ rfl
      unfold wput3 at z0 z1 z2
      refine bodyPost_ret (v := .agg #[.bool (negB (x + -y)), .slice go gn gc, .slice ho hn hc]) (by simp [results, Tryd.results56, go_sem, z0, z1, z2]) rfl ⟨_, rfl, ?_, below_put3 VC.out (by omega) _ _ _⟩
      rw [Rat.sub_eq_add_neg]
      exact ⟨go, gn, gc, ho, hn, hc, rfl, HG.out.put3 VZ.out (by decide) _ _ _, HH.out.put3 VZ.out (by decide) _ _ _⟩
    · have V0 := ((bx_past XA.out (.cells #[.bool false, .slice none 0 0, .slice none 0 0] 76)).drew.keep Hb5.out).put3_other (.bool (!isZ y.num.natAbs)) (.slice co p capc) (.slice eo q capd) (Nat.ne_of_gt la)
      have V5 := ((bx_new W #[.bool false, .slice none 0 0, .slice none 0 0] 76).drew.keep Hb5.out).put3 (.bool (!isZ y.num.natAbs)) (.slice co p capc) (.slice eo q capd)
      have VR := ((bx_past XR.out (.cells #[.bool false, .slice none 0 0, .slice none 0 0] 76)).drew.keep Hb5.out).put3_other (.bool (!isZ y.num.natAbs)) (.slice co p capc) (.slice eo q capd) (Nat.ne_of_gt lr)
      have VA := hid V0
      have VF := hid V5
      have VS := hid VR
      have T0 := hid (((R0.out.alloc (.cells #[.bool false, .slice none 0 0, .slice none 0 0] 76)).drew.below Hb5.out).put3 ((bx_new W #[.bool false, .slice none 0 0, .slice none 0 0] 76).drew.keep Hb5.out) (by decide) (.bool (!isZ y.num.natAbs)) (.slice co p capc) (.slice eo q capd))
      have T1 := hid (((R1.out.alloc (.cells #[.bool false, .slice none 0 0, .slice none 0 0] 76)).drew.below Hb5.out).put3 ((bx_new W #[.bool false, .slice none 0 0, .slice none 0 0] 76).drew.keep Hb5.out) (by decide) (.bool (!isZ y.num.natAbs)) (.slice co p capc) (.slice eo q capd))
      have T2 := hid (((R2.out.alloc (.cells #[.bool false, .slice none 0 0, .slice none 0 0] 76)).drew.below Hb5.out).put3 ((bx_new W #[.bool false, .slice none 0 0, .slice none 0 0] 76).drew.keep Hb5.out) (by decide) (.bool (!isZ y.num.natAbs)) (.slice co p capc) (.slice eo q capd))
      have T3 := hid (((R3.out.alloc (.cells #[.bool false, .slice none 0 0, .slice none 0 0] 76)).drew.below Hb5.out).put3 ((bx_new W #[.bool false, .slice none 0 0, .slice none 0 0] 76).drew.keep Hb5.out) (by decide) (.bool (!isZ y.num.natAbs)) (.slice co p capc) (.slice eo q capd))
      have VB : Hid (Below w.heap.size w (wput3 w4 W.heap.size (.bool (!isZ y.num.natAbs)) (.slice co p capc) (.slice eo q capd))) := below_put3 ((HB.out.alloc HB.out.size (.cells #[.bool false, .slice none 0 0, .slice none 0 0] 76)).drew.trans (Hb5.out.mono (Nat.le_trans HB.out.size (by show W.heap.size ≤ (W.heap.push _).size; simp)))) HB.out.size (.bool (!isZ y.num.natAbs)) (.slice co p capc) (.slice eo q capd)
      clear V0 V5 VR
      obtain ⟨V, hV⟩ : ∃ V, V = (wput3 w4 W.heap.size (.bool (!isZ y.num.natAbs)) (.slice co p capc) (.slice eo q capd)) := ⟨_, rfl⟩
      rw [← hV] at VA VF VS T0 T1 T2 T3 VB
      change Exit.then _ _ Exit.normal _ (wput3 w4 W.heap.size (.bool (!isZ y.num.natAbs)) (.slice co p capc) (.slice eo q capd))
      rw [← hV]
      clear hV
      have qA0 := VA.out.cell 0 _ rfl
      have qA1 := VA.out.cell 1 _ rfl
      have qA2 := VA.out.cell 2 _ rfl
      have qF0 := VF.out.cell 0 _ rfl
      have qF1 := VF.out.cell 1 _ rfl
      have qF2 := VF.out.cell 2 _ rfl
      go_wp2_with fail
      have C := radd_any ao bo co eo n capa m capb p capc q capd x (-y) V T0.out T1.out (by rw [N1.out]; exact T2.out) (by rw [N2.out]; exact T3.out) b1 b2 b3 b4
      rw [N3.out] at C
      refine C.mono ?_
      rintro e w5 ⟨v, rfl, ⟨go, gn, gc, ho, hn, hc, rfl, hg, hh⟩, hb5⟩
      have VZ := hid (VS.out.keep hb5)
      have VC : Hid (Below w.heap.size w w5) := VB.out.trans (hb5.mono VB.out.size)
      have s0 := VZ.out.cell 0 _ rfl
      have t0 := VZ.out.frozen 0
      have s1 := VZ.out.cell 1 _ rfl
      have t1 := VZ.out.frozen 1
      have s2 := VZ.out.cell 2 _ rfl
      have t2 := VZ.out.frozen 2
      have HG := hid hg
      have HH := hid hh
      clear C hb5 hg hh
      go_wp2
      have Z := VZ.out.put3 (.bool (negB (x + -y))) (.slice go gn gc) (.slice ho hn hc)
      have z0 := Z.cell 0 _ rfl
      have z1 := Z.cell 1 _ rfl
      have z2 := Z.cell 2 _ rfl
      unfold wput3 at z0 z1 z2
      refine bodyPost_ret (v := .agg #[.bool (negB (x + -y)), .slice go gn gc, .slice ho hn hc]) (by simp [results, Tryd.results56, go_sem, z0, z1, z2]) rfl ⟨_, rfl, ?_, below_put3 VC.out (by omega) _ _ _⟩
      rw [Rat.sub_eq_add_neg]
      exact ⟨go, gn, gc, ho, hn, hc, rfl, HG.out.put3 VZ.out (by decide) _ _ _, HH.out.put3 VZ.out (by decide) _ _ _⟩
  · rw [hy] at XB d0
    obtain ⟨n1, n2, n3⟩ := N.out
    rw [hy] at n3
    have N1 := hid n1
    have N2 := hid n2
    have N3 : Hid (negB (-y) = false) := n3
    clear n1 n2 n3 N
    go_region
    have V0 := (bx_past XA.out (.cells #[.bool false, .slice co p capc, .slice eo q capd] 76)).drew
    have V5 := (bx_new W #[.bool false, .slice co p capc, .slice eo q capd] 76).drew
    have VR := (bx_past XR.out (.cells #[.bool false, .slice co p capc, .slice eo q capd] 76)).drew
    have VA := hid V0
    have VF := hid V5
    have VS := hid VR
    have T0 := hid ((R0.out.alloc (.cells #[.bool false, .slice co p capc, .slice eo q capd] 76)).drew)
    have T1 := hid ((R1.out.alloc (.cells #[.bool false, .slice co p capc, .slice eo q capd] 76)).drew)
    have T2 := hid ((R2.out.alloc (.cells #[.bool false, .slice co p capc, .slice eo q capd] 76)).drew)
    have T3 := hid ((R3.out.alloc (.cells #[.bool false, .slice co p capc, .slice eo q capd] 76)).drew)
    have VB : Hid (Below w.heap.size w (W.alloc (.cells #[.bool false, .slice co p capc, .slice eo q capd] 76)).drew) := (HB.out.alloc HB.out.size (.cells #[.bool false, .slice co p capc, .slice eo q capd] 76)).drew
    clear V0 V5 VR
    have qA0 := VA.out.cell 0 _ rfl
    have qA1 := VA.out.cell 1 _ rfl
    have qA2 := VA.out.cell 2 _ rfl
    have qF0 := VF.out.cell 0 _ rfl
    have qF1 := VF.out.cell 1 _ rfl
    have qF2 := VF.out.cell 2 _ rfl
    go_wp2_with fail
    have C := radd_any ao bo co eo n capa m capb p capc q capd x (-y) (W.alloc (.cells #[.bool false, .slice co p capc, .slice eo q capd] 76)).drew T0.out T1.out (by rw [N1.out]; exact T2.out) (by rw [N2.out]; exact T3.out) b1 b2 b3 b4
    rw [N3.out] at C
    refine C.mono ?_
    rintro e w5 ⟨v, rfl, ⟨go, gn, gc, ho, hn, hc, rfl, hg, hh⟩, hb5⟩
    have VZ := hid (VS.out.keep hb5)
    have VC : Hid (Below w.heap.size w w5) := VB.out.trans (hb5.mono VB.out.size)
    have s0 := VZ.out.cell 0 _ rfl
    have t0 := VZ.out.frozen 0
    have s1 := VZ.out.cell 1 _ rfl
    have t1 := VZ.out.frozen 1
    have s2 := VZ.out.cell 2 _ rfl
    have t2 := VZ.out.frozen 2
    have HG := hid hg
    have HH := hid hh
    clear C hb5 hg hh
    go_wp2
    have Z := VZ.out.put3 (.bool (negB (x + -y))) (.slice go gn gc) (.slice ho hn hc)
    have z0 := Z.cell 0 _ rfl
    have z1 := Z.cell 1 _ rfl
    have z2 := Z.cell 2 _ rfl
    unfold wput3 at z0 z1 z2
    refine bodyPost_ret (v := .agg #[.bool (negB (x + -y)), .slice go gn gc, .slice ho hn hc]) (by simp [results, Tryd.results56, go_sem, z0, z1, z2]) rfl ⟨_, rfl, ?_, below_put3 VC.out (by omega) _ _ _⟩
    rw [Rat.sub_eq_add_neg]
    exact ⟨go, gn, gc, ho, hn, hc, rfl, HG.out.put3 VZ.out (by decide) _ _ _, HH.out.put3 VZ.out (by decide) _ _ _⟩
end Go.Proofs.YtddbflggcblfcaaDoor
