/- ratio.Floor: the greatest whole number that is not above a fraction. (Laid by mkfloor.py.) -/
import Derived.Test.YtigokanoflkinaaDoorWRat
import Derived.Test.YtigokanoflkinaaDoorWEx
namespace Go.Proofs.YtigokanoflkinaaDoor
set_option linter.unusedSimpArgs false
set_option linter.unusedVariables false
open Go.RowKit Por

/-- the greatest whole number not above q -/
def flZ (q : Rat) : Int := q.num / (q.den : Int)
def flQ (q : Rat) : Rat := (flZ q : Rat)

theorem fl_num (q : Rat) : (flQ q).num = flZ q := Rat.num_intCast _
theorem fl_den (q : Rat) : (flQ q).den = 1 := Rat.den_intCast _
theorem fl_pos (q : Rat) (h : negB q = false) : negB (flQ q) = false ∧ (flQ q).num.natAbs = q.num.natAbs / q.den := by
  have h' : 0 ≤ q.num := by unfold negB at h; rw [decide_eq_false_iff_not] at h; omega
  have hd := den_pos q
  have e : flZ q = ((q.num.natAbs / q.den : Nat) : Int) := by
    unfold flZ
    rw [Int.natCast_ediv]
    congr 1
    omega
  unfold negB
  rw [fl_num, e]
  generalize q.num.natAbs / q.den = t
  refine ⟨?_, Int.natAbs_natCast _⟩
  rw [decide_eq_false_iff_not]; omega
theorem fl_zero (q : Rat) (h : negB q = true) (hr : q.num.natAbs % q.den = 0) : negB (flQ q) = true ∧ (flQ q).num.natAbs = q.num.natAbs / q.den := by
  have h' : q.num < 0 := by unfold negB at h; rw [decide_eq_true_iff] at h; exact h
  have hd := den_pos q
  have hk : q.num.natAbs = q.den * (q.num.natAbs / q.den) := by have := Nat.div_add_mod q.num.natAbs q.den; omega
  have e : flZ q = -((q.num.natAbs / q.den : Nat) : Int) := by
    unfold flZ
    have hn : q.num = -((q.num.natAbs / q.den : Nat) : Int) * (q.den : Int) := by
      have : ((q.num.natAbs : Nat) : Int) = (q.den : Int) * ((q.num.natAbs / q.den : Nat) : Int) := by exact_mod_cast hk
      rw [Int.neg_mul, Int.mul_comm, ← this]; omega
    generalize (q.num.natAbs / q.den : Nat) = t at hn
    rw [hn]
    exact Int.mul_ediv_cancel _ (by omega)
  have hp : 0 < q.num.natAbs / q.den := by
    rcases Nat.eq_zero_or_pos (q.num.natAbs / q.den) with h0 | h0
    · rw [h0, Nat.mul_zero] at hk; omega
    · exact h0
  unfold negB
  rw [fl_num, e]
  generalize q.num.natAbs / q.den = t at hp
  refine ⟨?_, by omega⟩
  rw [decide_eq_true_iff]; omega
theorem fl_more (q : Rat) (h : negB q = true) (hr : q.num.natAbs % q.den ≠ 0) : negB (flQ q) = true ∧ (flQ q).num.natAbs = q.num.natAbs / q.den + 1 := by
  have h' : q.num < 0 := by unfold negB at h; rw [decide_eq_true_iff] at h; exact h
  have hd := den_pos q
  have hm := Nat.mod_lt q.num.natAbs (show q.den > 0 by omega)
  have hk := Nat.div_add_mod q.num.natAbs q.den
  have e : flZ q = -((q.num.natAbs / q.den + 1 : Nat) : Int) := by
    unfold flZ
    have h3 : ((q.num.natAbs : Nat) : Int) = (q.den : Int) * ((q.num.natAbs / q.den : Nat) : Int) + ((q.num.natAbs % q.den : Nat) : Int) := by exact_mod_cast hk.symm
    generalize ((q.num.natAbs / q.den : Nat)) = t at h3
    generalize ((q.num.natAbs % q.den : Nat)) = s at h3 hm hr
    have hn : q.num = (((q.den - s : Nat)) : Int) + -((t + 1 : Nat) : Int) * (q.den : Int) := by
      have e1 : ((t + 1 : Nat) : Int) * (q.den : Int) = (q.den : Int) * (t : Int) + (q.den : Int) := by rw [Int.natCast_add, Int.add_mul, Int.mul_comm]; simp
      rw [Int.neg_mul, e1]
      omega
    rw [hn, Int.add_mul_ediv_right _ _ (by omega)]
    rw [Int.ediv_eq_zero_of_lt (by omega) (by omega)]
    omega
  unfold negB
  rw [fl_num, e]
  clear hk hm e hr
  generalize q.num.natAbs / q.den = t
  refine ⟨?_, by omega⟩
  rw [decide_eq_true_iff]; omega

theorem Row.set1 {w : World} {ao : Option Addr} {n cap : Nat} {xs : List Int} (h : Row w ao n cap xs) {b : Nat} {x0 : Value} {T : TypeId} (hx : Bx w b #[x0] T) (hT : T ≠ 3) (u : Value) : Row (w.setCell ⟨b, 0, none⟩ u) ao n cap xs := by
  exact h.other b 0 u hx hT

set_option maxHeartbeats 2000000 in
set_option maxRecDepth 20000 in
theorem rfloor_pos (ao bo : Option Addr) (n capa m capb : Nat) (x : Rat) (w : World) (h1 : Row w ao n capa (limbs x.num.natAbs)) (h2 : Row w bo m capb (limbs x.den)) (b1 : n ≤ 10000) (b2 : m ≤ 10000) (hn : negB x = false) :
    Calls Tryd.prog 103 #[.agg #[.bool false, .slice ao n capa, .slice bo m capb]] w fun e w' => ∃ v, e = .returned v ∧ Frac w' v (flQ x) ∧ Below w.heap.size w w' := by
  have hf := hid (fl_pos x hn)
  clear hn
  obtain ⟨c1, c2, c5⟩ := boxes2 w #[.bool false, .slice ao n capa, .slice bo m capb] #[.bool false, .slice none 0 0, .slice none 0 0] 76 76
  have R0_0 := hid (h1.below c5)
  have len0 := h1.len
  have R1_0 := hid (h2.below c5)
  have len1 := h2.len
  have XA_0 := hid c1
  have XR_0 := hid c2
  have HB_0 := hid c5
  clear h1 h2 c1 c2 c5
  go_enter Tryd.func103, Tryd.ntmps103
  go_wp2_with fail
  refine (quotient_any ao bo n capa m capb x.num.natAbs x.den _ R0_0.out R1_0.out (by omega) (by omega)).mono ?_
  rintro e0 w0 ⟨v0, rfl, ⟨qo, qn, qc, rfl, hr0⟩, hb0⟩
  have XA_1 := hid (XA_0.out.keep hb0)
  have XR_1 := hid (XR_0.out.keep hb0)
  have R0_1 := hid (R0_0.out.below hb0)
  have R1_1 := hid (R1_0.out.below hb0)
  have HB_1 : Hid (Below w.heap.size w w0) := HB_0.out.trans (hb0.mono HB_0.out.size)
  have ltA := XA_1.out.lt
  have cA0 := XA_1.out.cell 0 _ rfl
  have cA1 := XA_1.out.cell 1 _ rfl
  have cA2 := XA_1.out.cell 2 _ rfl
  have ltR := XR_1.out.lt
  have cR0 := XR_1.out.cell 0 _ rfl
  have zR0 := XR_1.out.frozen 0
  have cR1 := XR_1.out.cell 1 _ rfl
  have zR1 := XR_1.out.frozen 1
  have cR2 := XR_1.out.cell 2 _ rfl
  have zR2 := XR_1.out.frozen 2
  have Rq_1 := hid hr0
  have lenq := hr0.len
  have bdq : qn ≤ 10000 := by rw [← lenq]; exact Nat.le_trans (len_mono (Nat.div_le_self _ _)) (by omega)
  clear hb0 hr0
  have YA_1 := hid (bx_past XA_1.out (.cells #[.slice qo qn qc] 74))
  have YR_1 := hid (bx_past XR_1.out (.cells #[.slice qo qn qc] 74))
  have Yq_1 := hid (bx_new w0 #[.slice qo qn qc] 74)
  have Q0_1 := hid (R0_1.out.alloc (.cells #[.slice qo qn qc] 74))
  have Q1_1 := hid (R1_1.out.alloc (.cells #[.slice qo qn qc] 74))
  have Qq_1 := hid (Rq_1.out.alloc (.cells #[.slice qo qn qc] 74))
  have HC_1 : Hid (Below w.heap.size w (w0.alloc (.cells #[.slice qo qn qc] 74))) := HB_1.out.alloc HB_1.out.size (.cells #[.slice qo qn qc] 74)
  go_wp2_with fail
  refine (remainder_any ao bo n capa m capb x.num.natAbs x.den _ Q0_1.out Q1_1.out (by omega) (by omega)).mono ?_
  rintro e1 w1 ⟨v1, rfl, ⟨so, sn, sc, rfl, hr1⟩, hb1⟩
  have XA_2 := hid (YA_1.out.keep hb1)
  have XR_2 := hid (YR_1.out.keep hb1)
  have Xq_2 := hid (Yq_1.out.keep hb1)
  have R0_2 := hid (Q0_1.out.below hb1)
  have R1_2 := hid (Q1_1.out.below hb1)
  have Rq_2 := hid (Qq_1.out.below hb1)
  have HB_2 : Hid (Below w.heap.size w w1) := HC_1.out.trans (hb1.mono HC_1.out.size)
  clear ltA cA0 cA1 cA2 ltR cR0 zR0 cR1 zR1 cR2 zR2
  have ltA := XA_2.out.lt
  have cA0 := XA_2.out.cell 0 _ rfl
  have cA1 := XA_2.out.cell 1 _ rfl
  have cA2 := XA_2.out.cell 2 _ rfl
  have ltR := XR_2.out.lt
  have cR0 := XR_2.out.cell 0 _ rfl
  have zR0 := XR_2.out.frozen 0
  have cR1 := XR_2.out.cell 1 _ rfl
  have zR1 := XR_2.out.frozen 1
  have cR2 := XR_2.out.cell 2 _ rfl
  have zR2 := XR_2.out.frozen 2
  have ltq := Xq_2.out.lt
  have cq0 := Xq_2.out.cell 0 _ rfl
  have Rs_2 := hid hr1
  have lens := hr1.len
  have bds : sn ≤ 10000 := by rw [← lens]; exact Nat.le_trans (len_mono (Nat.mod_le _ _)) (by omega)
  clear hb1 hr1
  have YA_2 := hid (bx_past XA_2.out (.cells #[.slice so sn sc] 74))
  have YR_2 := hid (bx_past XR_2.out (.cells #[.slice so sn sc] 74))
  have Yq_2 := hid (bx_past Xq_2.out (.cells #[.slice so sn sc] 74))
  have Ys_2 := hid (bx_new w1 #[.slice so sn sc] 74)
  have Q0_2 := hid (R0_2.out.alloc (.cells #[.slice so sn sc] 74))
  have Q1_2 := hid (R1_2.out.alloc (.cells #[.slice so sn sc] 74))
  have Qq_2 := hid (Rq_2.out.alloc (.cells #[.slice so sn sc] 74))
  have Qs_2 := hid (Rs_2.out.alloc (.cells #[.slice so sn sc] 74))
  have HC_2 : Hid (Below w.heap.size w (w1.alloc (.cells #[.slice so sn sc] 74))) := HB_2.out.alloc HB_2.out.size (.cells #[.slice so sn sc] 74)
  go_wp2_with fail
  refine (one_any _).mono ?_
  rintro e2 w2 ⟨v2, rfl, ⟨oo, on, oc, rfl, hr2⟩, hb2⟩
  have XA_3 := hid (YA_2.out.keep hb2)
  have XR_3 := hid (YR_2.out.keep hb2)
  have Xq_3 := hid (Yq_2.out.keep hb2)
  have Xs_3 := hid (Ys_2.out.keep hb2)
  have R0_3 := hid (Q0_2.out.below hb2)
  have R1_3 := hid (Q1_2.out.below hb2)
  have Rq_3 := hid (Qq_2.out.below hb2)
  have Rs_3 := hid (Qs_2.out.below hb2)
  have HB_3 : Hid (Below w.heap.size w w2) := HC_2.out.trans (hb2.mono HC_2.out.size)
  clear ltA cA0 cA1 cA2 ltR cR0 zR0 cR1 zR1 cR2 zR2 ltq cq0
  have ltA := XA_3.out.lt
  have cA0 := XA_3.out.cell 0 _ rfl
  have cA1 := XA_3.out.cell 1 _ rfl
  have cA2 := XA_3.out.cell 2 _ rfl
  have ltR := XR_3.out.lt
  have cR0 := XR_3.out.cell 0 _ rfl
  have zR0 := XR_3.out.frozen 0
  have cR1 := XR_3.out.cell 1 _ rfl
  have zR1 := XR_3.out.frozen 1
  have cR2 := XR_3.out.cell 2 _ rfl
  have zR2 := XR_3.out.frozen 2
  have ltq := Xq_3.out.lt
  have cq0 := Xq_3.out.cell 0 _ rfl
  have zq0 := Xq_3.out.frozen 0
  have lts := Xs_3.out.lt
  have cs0 := Xs_3.out.cell 0 _ rfl
  have Ro_3 := hid hr2
  have leno : on = 1 := hr2.len.symm.trans (by rw [limbs_one]; rfl)
  have bdo : on ≤ 1 := by omega
  clear hb2 hr2 leno
  have YA_3 := hid (bx_past XA_3.out (.cells #[.slice oo on oc] 74))
  have YR_3 := hid (bx_past XR_3.out (.cells #[.slice oo on oc] 74))
  have Yq_3 := hid (bx_past Xq_3.out (.cells #[.slice oo on oc] 74))
  have Ys_3 := hid (bx_past Xs_3.out (.cells #[.slice oo on oc] 74))
  have Yo_3 := hid (bx_new w2 #[.slice oo on oc] 74)
  have Q0_3 := hid (R0_3.out.alloc (.cells #[.slice oo on oc] 74))
  have Q1_3 := hid (R1_3.out.alloc (.cells #[.slice oo on oc] 74))
  have Qq_3 := hid (Rq_3.out.alloc (.cells #[.slice oo on oc] 74))
  have Qs_3 := hid (Rs_3.out.alloc (.cells #[.slice oo on oc] 74))
  have Qo_3 := hid (Ro_3.out.alloc (.cells #[.slice oo on oc] 74))
  have HC_3 : Hid (Below w.heap.size w (w2.alloc (.cells #[.slice oo on oc] 74))) := HB_3.out.alloc HB_3.out.size (.cells #[.slice oo on oc] 74)
  go_wp2
  have Z := bx_past (XR_3.out.put3 (.bool false) (.slice qo qn qc) (.slice oo on oc)) (.cells #[.slice oo on oc] 74)
  have z0 := Z.cell 0 _ rfl
  have z1 := Z.cell 1 _ rfl
  have z2 := Z.cell 2 _ rfl
  unfold wput3 at z0 z1 z2
  have BB := below_put3 HB_3.out (by omega : w.heap.size ≤ w.heap.size + 1) (.bool false) (.slice qo qn qc) (.slice oo on oc)
  refine bodyPost_ret (v := .agg #[.bool false, .slice qo qn qc, .slice oo on oc]) (by simp [results, Tryd.results103, go_sem, z0, z1, z2]) rfl ⟨_, rfl, ⟨qo, qn, qc, oo, on, oc, by rw [hf.out.1], ?_, ?_⟩, BB.alloc BB.size _⟩
  · rw [hf.out.2]; exact (Rq_3.out.put3 XR_3.out (by decide) _ _ _).alloc _
  · rw [fl_den]; exact (Ro_3.out.put3 XR_3.out (by decide) _ _ _).alloc _

set_option maxHeartbeats 2000000 in
set_option maxRecDepth 20000 in
theorem rfloor_zero (ao bo : Option Addr) (n capa m capb : Nat) (x : Rat) (w : World) (h1 : Row w ao n capa (limbs x.num.natAbs)) (h2 : Row w bo m capb (limbs x.den)) (b1 : n ≤ 10000) (b2 : m ≤ 10000) (hn : negB x = true) (hm0 : x.num.natAbs % x.den = 0) :
    Calls Tryd.prog 103 #[.agg #[.bool true, .slice ao n capa, .slice bo m capb]] w fun e w' => ∃ v, e = .returned v ∧ Frac w' v (flQ x) ∧ Below w.heap.size w w' := by
  have hf := hid (fl_zero x hn hm0)
  have hz : Hid (isZ (x.num.natAbs % x.den) = true) := by show _ = _; unfold isZ; rw [hm0]; rfl
  clear hn hm0
  obtain ⟨c1, c2, c5⟩ := boxes2 w #[.bool true, .slice ao n capa, .slice bo m capb] #[.bool false, .slice none 0 0, .slice none 0 0] 76 76
  have R0_0 := hid (h1.below c5)
  have len0 := h1.len
  have R1_0 := hid (h2.below c5)
  have len1 := h2.len
  have XA_0 := hid c1
  have XR_0 := hid c2
  have HB_0 := hid c5
  clear h1 h2 c1 c2 c5
  go_enter Tryd.func103, Tryd.ntmps103
  go_wp2_with fail
  refine (quotient_any ao bo n capa m capb x.num.natAbs x.den _ R0_0.out R1_0.out (by omega) (by omega)).mono ?_
  rintro e0 w0 ⟨v0, rfl, ⟨qo, qn, qc, rfl, hr0⟩, hb0⟩
  have XA_1 := hid (XA_0.out.keep hb0)
  have XR_1 := hid (XR_0.out.keep hb0)
  have R0_1 := hid (R0_0.out.below hb0)
  have R1_1 := hid (R1_0.out.below hb0)
  have HB_1 : Hid (Below w.heap.size w w0) := HB_0.out.trans (hb0.mono HB_0.out.size)
  have ltA := XA_1.out.lt
  have cA0 := XA_1.out.cell 0 _ rfl
  have cA1 := XA_1.out.cell 1 _ rfl
  have cA2 := XA_1.out.cell 2 _ rfl
  have ltR := XR_1.out.lt
  have cR0 := XR_1.out.cell 0 _ rfl
  have zR0 := XR_1.out.frozen 0
  have cR1 := XR_1.out.cell 1 _ rfl
  have zR1 := XR_1.out.frozen 1
  have cR2 := XR_1.out.cell 2 _ rfl
  have zR2 := XR_1.out.frozen 2
  have Rq_1 := hid hr0
  have lenq := hr0.len
  have bdq : qn ≤ 10000 := by rw [← lenq]; exact Nat.le_trans (len_mono (Nat.div_le_self _ _)) (by omega)
  clear hb0 hr0
  have YA_1 := hid (bx_past XA_1.out (.cells #[.slice qo qn qc] 74))
  have YR_1 := hid (bx_past XR_1.out (.cells #[.slice qo qn qc] 74))
  have Yq_1 := hid (bx_new w0 #[.slice qo qn qc] 74)
  have Q0_1 := hid (R0_1.out.alloc (.cells #[.slice qo qn qc] 74))
  have Q1_1 := hid (R1_1.out.alloc (.cells #[.slice qo qn qc] 74))
  have Qq_1 := hid (Rq_1.out.alloc (.cells #[.slice qo qn qc] 74))
  have HC_1 : Hid (Below w.heap.size w (w0.alloc (.cells #[.slice qo qn qc] 74))) := HB_1.out.alloc HB_1.out.size (.cells #[.slice qo qn qc] 74)
  go_wp2_with fail
  refine (remainder_any ao bo n capa m capb x.num.natAbs x.den _ Q0_1.out Q1_1.out (by omega) (by omega)).mono ?_
  rintro e1 w1 ⟨v1, rfl, ⟨so, sn, sc, rfl, hr1⟩, hb1⟩
  have XA_2 := hid (YA_1.out.keep hb1)
  have XR_2 := hid (YR_1.out.keep hb1)
  have Xq_2 := hid (Yq_1.out.keep hb1)
  have R0_2 := hid (Q0_1.out.below hb1)
  have R1_2 := hid (Q1_1.out.below hb1)
  have Rq_2 := hid (Qq_1.out.below hb1)
  have HB_2 : Hid (Below w.heap.size w w1) := HC_1.out.trans (hb1.mono HC_1.out.size)
  clear ltA cA0 cA1 cA2 ltR cR0 zR0 cR1 zR1 cR2 zR2
  have ltA := XA_2.out.lt
  have cA0 := XA_2.out.cell 0 _ rfl
  have cA1 := XA_2.out.cell 1 _ rfl
  have cA2 := XA_2.out.cell 2 _ rfl
  have ltR := XR_2.out.lt
  have cR0 := XR_2.out.cell 0 _ rfl
  have zR0 := XR_2.out.frozen 0
  have cR1 := XR_2.out.cell 1 _ rfl
  have zR1 := XR_2.out.frozen 1
  have cR2 := XR_2.out.cell 2 _ rfl
  have zR2 := XR_2.out.frozen 2
  have ltq := Xq_2.out.lt
  have cq0 := Xq_2.out.cell 0 _ rfl
  have Rs_2 := hid hr1
  have lens := hr1.len
  have bds : sn ≤ 10000 := by rw [← lens]; exact Nat.le_trans (len_mono (Nat.mod_le _ _)) (by omega)
  clear hb1 hr1
  have YA_2 := hid (bx_past XA_2.out (.cells #[.slice so sn sc] 74))
  have YR_2 := hid (bx_past XR_2.out (.cells #[.slice so sn sc] 74))
  have Yq_2 := hid (bx_past Xq_2.out (.cells #[.slice so sn sc] 74))
  have Ys_2 := hid (bx_new w1 #[.slice so sn sc] 74)
  have Q0_2 := hid (R0_2.out.alloc (.cells #[.slice so sn sc] 74))
  have Q1_2 := hid (R1_2.out.alloc (.cells #[.slice so sn sc] 74))
  have Qq_2 := hid (Rq_2.out.alloc (.cells #[.slice so sn sc] 74))
  have Qs_2 := hid (Rs_2.out.alloc (.cells #[.slice so sn sc] 74))
  have HC_2 : Hid (Below w.heap.size w (w1.alloc (.cells #[.slice so sn sc] 74))) := HB_2.out.alloc HB_2.out.size (.cells #[.slice so sn sc] 74)
  go_wp2_with fail
  refine (one_any _).mono ?_
  rintro e2 w2 ⟨v2, rfl, ⟨oo, on, oc, rfl, hr2⟩, hb2⟩
  have XA_3 := hid (YA_2.out.keep hb2)
  have XR_3 := hid (YR_2.out.keep hb2)
  have Xq_3 := hid (Yq_2.out.keep hb2)
  have Xs_3 := hid (Ys_2.out.keep hb2)
  have R0_3 := hid (Q0_2.out.below hb2)
  have R1_3 := hid (Q1_2.out.below hb2)
  have Rq_3 := hid (Qq_2.out.below hb2)
  have Rs_3 := hid (Qs_2.out.below hb2)
  have HB_3 : Hid (Below w.heap.size w w2) := HC_2.out.trans (hb2.mono HC_2.out.size)
  clear ltA cA0 cA1 cA2 ltR cR0 zR0 cR1 zR1 cR2 zR2 ltq cq0
  have ltA := XA_3.out.lt
  have cA0 := XA_3.out.cell 0 _ rfl
  have cA1 := XA_3.out.cell 1 _ rfl
  have cA2 := XA_3.out.cell 2 _ rfl
  have ltR := XR_3.out.lt
  have cR0 := XR_3.out.cell 0 _ rfl
  have zR0 := XR_3.out.frozen 0
  have cR1 := XR_3.out.cell 1 _ rfl
  have zR1 := XR_3.out.frozen 1
  have cR2 := XR_3.out.cell 2 _ rfl
  have zR2 := XR_3.out.frozen 2
  have ltq := Xq_3.out.lt
  have cq0 := Xq_3.out.cell 0 _ rfl
  have zq0 := Xq_3.out.frozen 0
  have lts := Xs_3.out.lt
  have cs0 := Xs_3.out.cell 0 _ rfl
  have Ro_3 := hid hr2
  have leno : on = 1 := hr2.len.symm.trans (by rw [limbs_one]; rfl)
  have bdo : on ≤ 1 := by omega
  clear hb2 hr2 leno
  have YA_3 := hid (bx_past XA_3.out (.cells #[.slice oo on oc] 74))
  have YR_3 := hid (bx_past XR_3.out (.cells #[.slice oo on oc] 74))
  have Yq_3 := hid (bx_past Xq_3.out (.cells #[.slice oo on oc] 74))
  have Ys_3 := hid (bx_past Xs_3.out (.cells #[.slice oo on oc] 74))
  have Yo_3 := hid (bx_new w2 #[.slice oo on oc] 74)
  have Q0_3 := hid (R0_3.out.alloc (.cells #[.slice oo on oc] 74))
  have Q1_3 := hid (R1_3.out.alloc (.cells #[.slice oo on oc] 74))
  have Qq_3 := hid (Rq_3.out.alloc (.cells #[.slice oo on oc] 74))
  have Qs_3 := hid (Rs_3.out.alloc (.cells #[.slice oo on oc] 74))
  have Qo_3 := hid (Ro_3.out.alloc (.cells #[.slice oo on oc] 74))
  have HC_3 : Hid (Below w.heap.size w (w2.alloc (.cells #[.slice oo on oc] 74))) := HB_3.out.alloc HB_3.out.size (.cells #[.slice oo on oc] 74)
  go_wp2_with fail
  refine (isZero_any so sn sc (x.num.natAbs % x.den) _ Qs_3.out (by omega)).mono ?_
  rintro e3 w3 ⟨rfl, hb3⟩
  have XA_4 := hid (YA_3.out.keep hb3)
  have XR_4 := hid (YR_3.out.keep hb3)
  have Xq_4 := hid (Yq_3.out.keep hb3)
  have Xs_4 := hid (Ys_3.out.keep hb3)
  have Xo_4 := hid (Yo_3.out.keep hb3)
  have R0_4 := hid (Q0_3.out.below hb3)
  have R1_4 := hid (Q1_3.out.below hb3)
  have Rq_4 := hid (Qq_3.out.below hb3)
  have Rs_4 := hid (Qs_3.out.below hb3)
  have Ro_4 := hid (Qo_3.out.below hb3)
  have HB_4 : Hid (Below w.heap.size w w3) := HC_3.out.trans (hb3.mono HC_3.out.size)
  clear ltA cA0 cA1 cA2 ltR cR0 zR0 cR1 zR1 cR2 zR2 ltq cq0 zq0 lts cs0
  have ltA := XA_4.out.lt
  have cA0 := XA_4.out.cell 0 _ rfl
  have cA1 := XA_4.out.cell 1 _ rfl
  have cA2 := XA_4.out.cell 2 _ rfl
  have ltR := XR_4.out.lt
  have cR0 := XR_4.out.cell 0 _ rfl
  have zR0 := XR_4.out.frozen 0
  have cR1 := XR_4.out.cell 1 _ rfl
  have zR1 := XR_4.out.frozen 1
  have cR2 := XR_4.out.cell 2 _ rfl
  have zR2 := XR_4.out.frozen 2
  have ltq := Xq_4.out.lt
  have cq0 := Xq_4.out.cell 0 _ rfl
  have zq0 := Xq_4.out.frozen 0
  have lts := Xs_4.out.lt
  have cs0 := Xs_4.out.cell 0 _ rfl
  have lto := Xo_4.out.lt
  have co0 := Xo_4.out.cell 0 _ rfl
  rw [hz.out]
  clear hb3
  go_wp2
  have Z := XR_4.out.put3 (.bool true) (.slice qo qn qc) (.slice oo on oc)
  have z0 := Z.cell 0 _ rfl
  have z1 := Z.cell 1 _ rfl
  have z2 := Z.cell 2 _ rfl
  unfold wput3 at z0 z1 z2
  have BB := below_put3 HB_4.out (by omega : w.heap.size ≤ w.heap.size + 1) (.bool true) (.slice qo qn qc) (.slice oo on oc)
  refine bodyPost_ret (v := .agg #[.bool true, .slice qo qn qc, .slice oo on oc]) (by simp [results, Tryd.results103, go_sem, z0, z1, z2]) rfl ⟨_, rfl, ⟨qo, qn, qc, oo, on, oc, by rw [hf.out.1], ?_, ?_⟩, BB⟩
  · rw [hf.out.2]; exact Rq_4.out.put3 XR_4.out (by decide) _ _ _
  · rw [fl_den]; exact Ro_4.out.put3 XR_4.out (by decide) _ _ _

set_option maxHeartbeats 2000000 in
set_option maxRecDepth 20000 in
theorem rfloor_more (ao bo : Option Addr) (n capa m capb : Nat) (x : Rat) (w : World) (h1 : Row w ao n capa (limbs x.num.natAbs)) (h2 : Row w bo m capb (limbs x.den)) (b1 : n ≤ 10000) (b2 : m ≤ 10000) (hn : negB x = true) (hm0 : x.num.natAbs % x.den ≠ 0) :
    Calls Tryd.prog 103 #[.agg #[.bool true, .slice ao n capa, .slice bo m capb]] w fun e w' => ∃ v, e = .returned v ∧ Frac w' v (flQ x) ∧ Below w.heap.size w w' := by
  have hf := hid (fl_more x hn hm0)
  have hz : Hid (isZ (x.num.natAbs % x.den) = false) := by show _ = _; unfold isZ; rw [beq_eq_false_iff_ne]; exact hm0
  clear hn hm0
  obtain ⟨c1, c2, c5⟩ := boxes2 w #[.bool true, .slice ao n capa, .slice bo m capb] #[.bool false, .slice none 0 0, .slice none 0 0] 76 76
  have R0_0 := hid (h1.below c5)
  have len0 := h1.len
  have R1_0 := hid (h2.below c5)
  have len1 := h2.len
  have XA_0 := hid c1
  have XR_0 := hid c2
  have HB_0 := hid c5
  clear h1 h2 c1 c2 c5
  go_enter Tryd.func103, Tryd.ntmps103
  go_wp2_with fail
  refine (quotient_any ao bo n capa m capb x.num.natAbs x.den _ R0_0.out R1_0.out (by omega) (by omega)).mono ?_
  rintro e0 w0 ⟨v0, rfl, ⟨qo, qn, qc, rfl, hr0⟩, hb0⟩
  have XA_1 := hid (XA_0.out.keep hb0)
  have XR_1 := hid (XR_0.out.keep hb0)
  have R0_1 := hid (R0_0.out.below hb0)
  have R1_1 := hid (R1_0.out.below hb0)
  have HB_1 : Hid (Below w.heap.size w w0) := HB_0.out.trans (hb0.mono HB_0.out.size)
  have ltA := XA_1.out.lt
  have cA0 := XA_1.out.cell 0 _ rfl
  have cA1 := XA_1.out.cell 1 _ rfl
  have cA2 := XA_1.out.cell 2 _ rfl
  have ltR := XR_1.out.lt
  have cR0 := XR_1.out.cell 0 _ rfl
  have zR0 := XR_1.out.frozen 0
  have cR1 := XR_1.out.cell 1 _ rfl
  have zR1 := XR_1.out.frozen 1
  have cR2 := XR_1.out.cell 2 _ rfl
  have zR2 := XR_1.out.frozen 2
  have Rq_1 := hid hr0
  have lenq := hr0.len
  have bdq : qn ≤ 10000 := by rw [← lenq]; exact Nat.le_trans (len_mono (Nat.div_le_self _ _)) (by omega)
  clear hb0 hr0
  have YA_1 := hid (bx_past XA_1.out (.cells #[.slice qo qn qc] 74))
  have YR_1 := hid (bx_past XR_1.out (.cells #[.slice qo qn qc] 74))
  have Yq_1 := hid (bx_new w0 #[.slice qo qn qc] 74)
  have Q0_1 := hid (R0_1.out.alloc (.cells #[.slice qo qn qc] 74))
  have Q1_1 := hid (R1_1.out.alloc (.cells #[.slice qo qn qc] 74))
  have Qq_1 := hid (Rq_1.out.alloc (.cells #[.slice qo qn qc] 74))
  have HC_1 : Hid (Below w.heap.size w (w0.alloc (.cells #[.slice qo qn qc] 74))) := HB_1.out.alloc HB_1.out.size (.cells #[.slice qo qn qc] 74)
  go_wp2_with fail
  refine (remainder_any ao bo n capa m capb x.num.natAbs x.den _ Q0_1.out Q1_1.out (by omega) (by omega)).mono ?_
  rintro e1 w1 ⟨v1, rfl, ⟨so, sn, sc, rfl, hr1⟩, hb1⟩
  have XA_2 := hid (YA_1.out.keep hb1)
  have XR_2 := hid (YR_1.out.keep hb1)
  have Xq_2 := hid (Yq_1.out.keep hb1)
  have R0_2 := hid (Q0_1.out.below hb1)
  have R1_2 := hid (Q1_1.out.below hb1)
  have Rq_2 := hid (Qq_1.out.below hb1)
  have HB_2 : Hid (Below w.heap.size w w1) := HC_1.out.trans (hb1.mono HC_1.out.size)
  clear ltA cA0 cA1 cA2 ltR cR0 zR0 cR1 zR1 cR2 zR2
  have ltA := XA_2.out.lt
  have cA0 := XA_2.out.cell 0 _ rfl
  have cA1 := XA_2.out.cell 1 _ rfl
  have cA2 := XA_2.out.cell 2 _ rfl
  have ltR := XR_2.out.lt
  have cR0 := XR_2.out.cell 0 _ rfl
  have zR0 := XR_2.out.frozen 0
  have cR1 := XR_2.out.cell 1 _ rfl
  have zR1 := XR_2.out.frozen 1
  have cR2 := XR_2.out.cell 2 _ rfl
  have zR2 := XR_2.out.frozen 2
  have ltq := Xq_2.out.lt
  have cq0 := Xq_2.out.cell 0 _ rfl
  have Rs_2 := hid hr1
  have lens := hr1.len
  have bds : sn ≤ 10000 := by rw [← lens]; exact Nat.le_trans (len_mono (Nat.mod_le _ _)) (by omega)
  clear hb1 hr1
  have YA_2 := hid (bx_past XA_2.out (.cells #[.slice so sn sc] 74))
  have YR_2 := hid (bx_past XR_2.out (.cells #[.slice so sn sc] 74))
  have Yq_2 := hid (bx_past Xq_2.out (.cells #[.slice so sn sc] 74))
  have Ys_2 := hid (bx_new w1 #[.slice so sn sc] 74)
  have Q0_2 := hid (R0_2.out.alloc (.cells #[.slice so sn sc] 74))
  have Q1_2 := hid (R1_2.out.alloc (.cells #[.slice so sn sc] 74))
  have Qq_2 := hid (Rq_2.out.alloc (.cells #[.slice so sn sc] 74))
  have Qs_2 := hid (Rs_2.out.alloc (.cells #[.slice so sn sc] 74))
  have HC_2 : Hid (Below w.heap.size w (w1.alloc (.cells #[.slice so sn sc] 74))) := HB_2.out.alloc HB_2.out.size (.cells #[.slice so sn sc] 74)
  go_wp2_with fail
  refine (one_any _).mono ?_
  rintro e2 w2 ⟨v2, rfl, ⟨oo, on, oc, rfl, hr2⟩, hb2⟩
  have XA_3 := hid (YA_2.out.keep hb2)
  have XR_3 := hid (YR_2.out.keep hb2)
  have Xq_3 := hid (Yq_2.out.keep hb2)
  have Xs_3 := hid (Ys_2.out.keep hb2)
  have R0_3 := hid (Q0_2.out.below hb2)
  have R1_3 := hid (Q1_2.out.below hb2)
  have Rq_3 := hid (Qq_2.out.below hb2)
  have Rs_3 := hid (Qs_2.out.below hb2)
  have HB_3 : Hid (Below w.heap.size w w2) := HC_2.out.trans (hb2.mono HC_2.out.size)
  clear ltA cA0 cA1 cA2 ltR cR0 zR0 cR1 zR1 cR2 zR2 ltq cq0
  have ltA := XA_3.out.lt
  have cA0 := XA_3.out.cell 0 _ rfl
  have cA1 := XA_3.out.cell 1 _ rfl
  have cA2 := XA_3.out.cell 2 _ rfl
  have ltR := XR_3.out.lt
  have cR0 := XR_3.out.cell 0 _ rfl
  have zR0 := XR_3.out.frozen 0
  have cR1 := XR_3.out.cell 1 _ rfl
  have zR1 := XR_3.out.frozen 1
  have cR2 := XR_3.out.cell 2 _ rfl
  have zR2 := XR_3.out.frozen 2
  have ltq := Xq_3.out.lt
  have cq0 := Xq_3.out.cell 0 _ rfl
  have zq0 := Xq_3.out.frozen 0
  have lts := Xs_3.out.lt
  have cs0 := Xs_3.out.cell 0 _ rfl
  have Ro_3 := hid hr2
  have leno : on = 1 := hr2.len.symm.trans (by rw [limbs_one]; rfl)
  have bdo : on ≤ 1 := by omega
  clear hb2 hr2 leno
  have YA_3 := hid (bx_past XA_3.out (.cells #[.slice oo on oc] 74))
  have YR_3 := hid (bx_past XR_3.out (.cells #[.slice oo on oc] 74))
  have Yq_3 := hid (bx_past Xq_3.out (.cells #[.slice oo on oc] 74))
  have Ys_3 := hid (bx_past Xs_3.out (.cells #[.slice oo on oc] 74))
  have Yo_3 := hid (bx_new w2 #[.slice oo on oc] 74)
  have Q0_3 := hid (R0_3.out.alloc (.cells #[.slice oo on oc] 74))
  have Q1_3 := hid (R1_3.out.alloc (.cells #[.slice oo on oc] 74))
  have Qq_3 := hid (Rq_3.out.alloc (.cells #[.slice oo on oc] 74))
  have Qs_3 := hid (Rs_3.out.alloc (.cells #[.slice oo on oc] 74))
  have Qo_3 := hid (Ro_3.out.alloc (.cells #[.slice oo on oc] 74))
  have HC_3 : Hid (Below w.heap.size w (w2.alloc (.cells #[.slice oo on oc] 74))) := HB_3.out.alloc HB_3.out.size (.cells #[.slice oo on oc] 74)
  go_wp2_with fail
  refine (isZero_any so sn sc (x.num.natAbs % x.den) _ Qs_3.out (by omega)).mono ?_
  rintro e3 w3 ⟨rfl, hb3⟩
  have XA_4 := hid (YA_3.out.keep hb3)
  have XR_4 := hid (YR_3.out.keep hb3)
  have Xq_4 := hid (Yq_3.out.keep hb3)
  have Xs_4 := hid (Ys_3.out.keep hb3)
  have Xo_4 := hid (Yo_3.out.keep hb3)
  have R0_4 := hid (Q0_3.out.below hb3)
  have R1_4 := hid (Q1_3.out.below hb3)
  have Rq_4 := hid (Qq_3.out.below hb3)
  have Rs_4 := hid (Qs_3.out.below hb3)
  have Ro_4 := hid (Qo_3.out.below hb3)
  have HB_4 : Hid (Below w.heap.size w w3) := HC_3.out.trans (hb3.mono HC_3.out.size)
  clear ltA cA0 cA1 cA2 ltR cR0 zR0 cR1 zR1 cR2 zR2 ltq cq0 zq0 lts cs0
  have ltA := XA_4.out.lt
  have cA0 := XA_4.out.cell 0 _ rfl
  have cA1 := XA_4.out.cell 1 _ rfl
  have cA2 := XA_4.out.cell 2 _ rfl
  have ltR := XR_4.out.lt
  have cR0 := XR_4.out.cell 0 _ rfl
  have zR0 := XR_4.out.frozen 0
  have cR1 := XR_4.out.cell 1 _ rfl
  have zR1 := XR_4.out.frozen 1
  have cR2 := XR_4.out.cell 2 _ rfl
  have zR2 := XR_4.out.frozen 2
  have ltq := Xq_4.out.lt
  have cq0 := Xq_4.out.cell 0 _ rfl
  have zq0 := Xq_4.out.frozen 0
  have lts := Xs_4.out.lt
  have cs0 := Xs_4.out.cell 0 _ rfl
  have lto := Xo_4.out.lt
  have co0 := Xo_4.out.cell 0 _ rfl
  rw [hz.out]
  clear hb3
  go_wp2_with fail
  refine (add_any qo oo qn qc on oc (x.num.natAbs / x.den) 1 _ Rq_4.out Ro_4.out (by omega) (by omega)).mono ?_
  rintro e4 w4 ⟨v4, rfl, ⟨go, gn, gc, rfl, hr4⟩, hb4⟩
  have XA_5 := hid (XA_4.out.keep hb4)
  have XR_5 := hid (XR_4.out.keep hb4)
  have Xq_5 := hid (Xq_4.out.keep hb4)
  have Xs_5 := hid (Xs_4.out.keep hb4)
  have Xo_5 := hid (Xo_4.out.keep hb4)
  have R0_5 := hid (R0_4.out.below hb4)
  have R1_5 := hid (R1_4.out.below hb4)
  have Rq_5 := hid (Rq_4.out.below hb4)
  have Rs_5 := hid (Rs_4.out.below hb4)
  have Ro_5 := hid (Ro_4.out.below hb4)
  have HB_5 : Hid (Below w.heap.size w w4) := HB_4.out.trans (hb4.mono HB_4.out.size)
  clear ltA cA0 cA1 cA2 ltR cR0 zR0 cR1 zR1 cR2 zR2 ltq cq0 zq0 lts cs0 lto co0
  have ltA := XA_5.out.lt
  have cA0 := XA_5.out.cell 0 _ rfl
  have cA1 := XA_5.out.cell 1 _ rfl
  have cA2 := XA_5.out.cell 2 _ rfl
  have ltR := XR_5.out.lt
  have cR0 := XR_5.out.cell 0 _ rfl
  have zR0 := XR_5.out.frozen 0
  have cR1 := XR_5.out.cell 1 _ rfl
  have zR1 := XR_5.out.frozen 1
  have cR2 := XR_5.out.cell 2 _ rfl
  have zR2 := XR_5.out.frozen 2
  have ltq := Xq_5.out.lt
  have cq0 := Xq_5.out.cell 0 _ rfl
  have zq0 := Xq_5.out.frozen 0
  have lts := Xs_5.out.lt
  have cs0 := Xs_5.out.cell 0 _ rfl
  have lto := Xo_5.out.lt
  have co0 := Xo_5.out.cell 0 _ rfl
  have Rg := hid hr4
  clear hb4 hr4
  have nA := XA_1.out.lt
  have nR := XR_1.out.lt
  have nq := Xq_3.out.lt
  go_wp2
  have P := (XR_5.out.other ⟨w0.heap.size, 0, none⟩ (.slice go gn gc) (by show w0.heap.size ≠ _; omega))
  have Z := P.put3 (.bool true) (.slice go gn gc) (.slice oo on oc)
  have z0 := Z.cell 0 _ rfl
  have z1 := Z.cell 1 _ rfl
  have z2 := Z.cell 2 _ rfl
  unfold wput3 at z0 z1 z2
  have BB := below_put3 (HB_5.out.setCell (p := ⟨w0.heap.size, 0, none⟩) (by show w.heap.size ≤ w0.heap.size; omega) (.slice go gn gc)) (by omega : w.heap.size ≤ w.heap.size + 1) (.bool true) (.slice go gn gc) (.slice oo on oc)
  refine bodyPost_ret (v := .agg #[.bool true, .slice go gn gc, .slice oo on oc]) (by simp [results, Tryd.results103, go_sem, z0, z1, z2]) rfl ⟨_, rfl, ⟨go, gn, gc, oo, on, oc, by rw [hf.out.1], ?_, ?_⟩, BB⟩
  · rw [hf.out.2]; exact (Rg.out.set1 Xq_5.out (by decide) _).put3 P (by decide) _ _ _
  · rw [fl_den]; exact (Ro_5.out.set1 Xq_5.out (by decide) _).put3 P (by decide) _ _ _

theorem rfloor_any (ao bo : Option Addr) (n capa m capb : Nat) (x : Rat) (w : World) (h1 : Row w ao n capa (limbs x.num.natAbs)) (h2 : Row w bo m capb (limbs x.den)) (b1 : n ≤ 10000) (b2 : m ≤ 10000) :
    Calls Tryd.prog 103 #[.agg #[.bool (negB x), .slice ao n capa, .slice bo m capb]] w fun e w' => ∃ v, e = .returned v ∧ Frac w' v (flQ x) ∧ Below w.heap.size w w' := by
  cases hn : negB x
  · exact rfloor_pos ao bo n capa m capb x w h1 h2 b1 b2 hn
  · by_cases hm : x.num.natAbs % x.den = 0
    · exact rfloor_zero ao bo n capa m capb x w h1 h2 b1 b2 hn hm
    · exact rfloor_more ao bo n capa m capb x w h1 h2 b1 b2 hn hm
end Go.Proofs.YtigokanoflkinaaDoor
