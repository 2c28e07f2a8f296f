/- Fraction.Text of package ratio: the one text of any fraction. (Laid by mkrate.py.) -/
import Derived.Test.YtddbflggcblfcaaDoorWRatA
import Derived.Test.YtddbflggcblfcaaDoorWTextB
namespace Go.Proofs.YtddbflggcblfcaaDoor
set_option linter.unusedSimpArgs false
set_option linter.unusedVariables false
open Go.RowKit Por
open Go.Lib (decDigits)

theorem bytes_ext (a : ByteArray) (l : List UInt8) (h : a.data.toList = l) : a = ⟨l.toArray⟩ := by
  apply ByteArray.ext; apply Array.toList_inj.1; rw [h]

set_option maxHeartbeats 2000000 in
set_option maxRecDepth 20000 in
theorem rtext_false_one (ao bo : Option Addr) (n capa m capb : Nat) (q : Rat) (w : World) (h1 : Row w ao n capa (limbs q.num.natAbs)) (h2 : Row w bo m capb (limbs q.den)) (b1 : n ≤ 30000) (b2 : m ≤ 30000) (ht : Tab w) (hn : negB q = false) (hd : q.den = 1) :
    Calls Tryd.prog 52 #[.agg #[.bool false, .slice ao n capa, .slice bo m capb]] w fun e w' => e = .returned (.string ⟨(txt q).toArray⟩) ∧ Below w.heap.size w w' := by
  have hn' := hid hn
  have hd' := hid hd
  have hc : Hid (cmp3 (q.den : Int) ((1 : Nat) : Int) = 0) := by show _ = _; unfold cmp3; rw [if_neg (by omega), if_pos (by omega)]
  clear hn hd
  have XA_0 := hid (bx_new w #[.bool false, .slice ao n capa, .slice bo m capb] 76)
  have HB_0 := hid ((Below.refl _ w).alloc (Nat.le_refl _) (.cells #[.bool false, .slice ao n capa, .slice bo m capb] 76))
  have R0_0 := hid (h1.below HB_0.out)
  have R1_0 := hid (h2.below HB_0.out)
  have HT_0 := hid (ht.below HB_0.out)
  have len0 := h1.len
  have len1 := h2.len
  clear h1 h2 ht
  go_enter Tryd.func52, Tryd.ntmps52
  go_wp2_with fail
  refine (text_any ao n capa q.num.natAbs _ R0_0.out (by omega) HT_0.out).mono ?_
  rintro e0 w0 ⟨rfl, hb0⟩
  have XA_1 := hid (XA_0.out.keep hb0)
  have R0_1 := hid (R0_0.out.below hb0)
  have R1_1 := hid (R1_0.out.below hb0)
  have HB_1 : Hid (Below w.heap.size w w0) := HB_0.out.trans (hb0.mono HB_0.out.size)
  have HT_1 := hid (HT_0.out.below hb0)
  have ltA := XA_1.out.lt
  have cA0 := XA_1.out.cell 0 _ rfl
  have cA1 := XA_1.out.cell 1 _ rfl
  have cA2 := XA_1.out.cell 2 _ rfl
  clear hb0
  have hl0 : (decDigits q.num.natAbs).length ≤ 200000 := Nat.le_trans (dec_len_of _ n len0) (by omega)
  have hl1 : (decDigits q.den).length ≤ 200000 := Nat.le_trans (dec_len_of _ m len1) (by omega)
  go_wp2_with fail
  refine (one_any _).mono ?_
  rintro e1 w1 ⟨v1, rfl, ⟨oo, on, oc, rfl, hr1⟩, hb1⟩
  have XA_2 := hid (XA_1.out.keep hb1)
  have R0_2 := hid (R0_1.out.below hb1)
  have R1_2 := hid (R1_1.out.below hb1)
  have HB_2 : Hid (Below w.heap.size w w1) := HB_1.out.trans (hb1.mono HB_1.out.size)
  have HT_2 := hid (HT_1.out.below hb1)
  clear ltA cA0 cA1 cA2
  have ltA := XA_2.out.lt
  have cA0 := XA_2.out.cell 0 _ rfl
  have cA1 := XA_2.out.cell 1 _ rfl
  have cA2 := XA_2.out.cell 2 _ rfl
  have Ro_2 := hid hr1
  have leno : on = 1 := hr1.len.symm.trans (by rw [limbs_one]; rfl)
  have leno2 : on ≤ 1 := by omega
  clear hb1 hr1 leno
  have YA_2 := hid (bx_past XA_2.out (.cells #[.slice oo on oc] 74))
  have Yo_2 := hid (bx_new w1 #[.slice oo on oc] 74)
  have Q0_2 := hid (R0_2.out.alloc (.cells #[.slice oo on oc] 74))
  have Q1_2 := hid (R1_2.out.alloc (.cells #[.slice oo on oc] 74))
  have Qo_2 := hid (Ro_2.out.alloc (.cells #[.slice oo on oc] 74))
  have HC_2 : Hid (Below w.heap.size w (w1.alloc (.cells #[.slice oo on oc] 74))) := HB_2.out.alloc HB_2.out.size (.cells #[.slice oo on oc] 74)
  have HU_2 := hid (HT_2.out.below ((Below.refl _ _).alloc (Nat.le_refl _) (.cells #[.slice oo on oc] 74)))
  go_wp2_with fail
  refine (compare_any bo oo m capb on oc q.den 1 _ Q1_2.out Qo_2.out (by omega) (by omega)).mono ?_
  rintro e2 w2 ⟨rfl, hb2⟩
  have XA_3 := hid (YA_2.out.keep hb2)
  have Xo_3 := hid (Yo_2.out.keep hb2)
  have R0_3 := hid (Q0_2.out.below hb2)
  have R1_3 := hid (Q1_2.out.below hb2)
  have Ro_3 := hid (Qo_2.out.below hb2)
  have HB_3 : Hid (Below w.heap.size w w2) := HC_2.out.trans (hb2.mono HC_2.out.size)
  have HT_3 := hid (HU_2.out.below hb2)
  clear ltA cA0 cA1 cA2
  have ltA := XA_3.out.lt
  have cA0 := XA_3.out.cell 0 _ rfl
  have cA1 := XA_3.out.cell 1 _ rfl
  have cA2 := XA_3.out.cell 2 _ rfl
  have lto := Xo_3.out.lt
  have co0 := Xo_3.out.cell 0 _ rfl
  rw [hc.out]
  clear hb2
  go_wp2
  go_ret
  refine ⟨?_, HB_3.out⟩
  show Ending.returned (.string _) = _
  congr 2
  apply bytes_ext
  simp [txt, hn'.out, hd'.out, ByteArray.data_append]

set_option maxHeartbeats 2000000 in
set_option maxRecDepth 20000 in
theorem rtext_false_more (ao bo : Option Addr) (n capa m capb : Nat) (q : Rat) (w : World) (h1 : Row w ao n capa (limbs q.num.natAbs)) (h2 : Row w bo m capb (limbs q.den)) (b1 : n ≤ 30000) (b2 : m ≤ 30000) (ht : Tab w) (hn : negB q = false) (hd : 1 < q.den) :
    Calls Tryd.prog 52 #[.agg #[.bool false, .slice ao n capa, .slice bo m capb]] w fun e w' => e = .returned (.string ⟨(txt q).toArray⟩) ∧ Below w.heap.size w w' := by
  have hn' := hid hn
  have hd' := hid hd
  have hc : Hid (cmp3 (q.den : Int) ((1 : Nat) : Int) = 1) := by show _ = _; unfold cmp3; rw [if_neg (by omega), if_neg (by omega)]
  clear hn hd
  have XA_0 := hid (bx_new w #[.bool false, .slice ao n capa, .slice bo m capb] 76)
  have HB_0 := hid ((Below.refl _ w).alloc (Nat.le_refl _) (.cells #[.bool false, .slice ao n capa, .slice bo m capb] 76))
  have R0_0 := hid (h1.below HB_0.out)
  have R1_0 := hid (h2.below HB_0.out)
  have HT_0 := hid (ht.below HB_0.out)
  have len0 := h1.len
  have len1 := h2.len
  clear h1 h2 ht
  go_enter Tryd.func52, Tryd.ntmps52
  go_wp2_with fail
  refine (text_any ao n capa q.num.natAbs _ R0_0.out (by omega) HT_0.out).mono ?_
  rintro e0 w0 ⟨rfl, hb0⟩
  have XA_1 := hid (XA_0.out.keep hb0)
  have R0_1 := hid (R0_0.out.below hb0)
  have R1_1 := hid (R1_0.out.below hb0)
  have HB_1 : Hid (Below w.heap.size w w0) := HB_0.out.trans (hb0.mono HB_0.out.size)
  have HT_1 := hid (HT_0.out.below hb0)
  have ltA := XA_1.out.lt
  have cA0 := XA_1.out.cell 0 _ rfl
  have cA1 := XA_1.out.cell 1 _ rfl
  have cA2 := XA_1.out.cell 2 _ rfl
  clear hb0
  have hl0 : (decDigits q.num.natAbs).length ≤ 200000 := Nat.le_trans (dec_len_of _ n len0) (by omega)
  have hl1 : (decDigits q.den).length ≤ 200000 := Nat.le_trans (dec_len_of _ m len1) (by omega)
  go_wp2_with fail
  refine (one_any _).mono ?_
  rintro e1 w1 ⟨v1, rfl, ⟨oo, on, oc, rfl, hr1⟩, hb1⟩
  have XA_2 := hid (XA_1.out.keep hb1)
  have R0_2 := hid (R0_1.out.below hb1)
  have R1_2 := hid (R1_1.out.below hb1)
  have HB_2 : Hid (Below w.heap.size w w1) := HB_1.out.trans (hb1.mono HB_1.out.size)
  have HT_2 := hid (HT_1.out.below hb1)
  clear ltA cA0 cA1 cA2
  have ltA := XA_2.out.lt
  have cA0 := XA_2.out.cell 0 _ rfl
  have cA1 := XA_2.out.cell 1 _ rfl
  have cA2 := XA_2.out.cell 2 _ rfl
  have Ro_2 := hid hr1
  have leno : on = 1 := hr1.len.symm.trans (by rw [limbs_one]; rfl)
  have leno2 : on ≤ 1 := by omega
  clear hb1 hr1 leno
  have YA_2 := hid (bx_past XA_2.out (.cells #[.slice oo on oc] 74))
  have Yo_2 := hid (bx_new w1 #[.slice oo on oc] 74)
  have Q0_2 := hid (R0_2.out.alloc (.cells #[.slice oo on oc] 74))
  have Q1_2 := hid (R1_2.out.alloc (.cells #[.slice oo on oc] 74))
  have Qo_2 := hid (Ro_2.out.alloc (.cells #[.slice oo on oc] 74))
  have HC_2 : Hid (Below w.heap.size w (w1.alloc (.cells #[.slice oo on oc] 74))) := HB_2.out.alloc HB_2.out.size (.cells #[.slice oo on oc] 74)
  have HU_2 := hid (HT_2.out.below ((Below.refl _ _).alloc (Nat.le_refl _) (.cells #[.slice oo on oc] 74)))
  go_wp2_with fail
  refine (compare_any bo oo m capb on oc q.den 1 _ Q1_2.out Qo_2.out (by omega) (by omega)).mono ?_
  rintro e2 w2 ⟨rfl, hb2⟩
  have XA_3 := hid (YA_2.out.keep hb2)
  have Xo_3 := hid (Yo_2.out.keep hb2)
  have R0_3 := hid (Q0_2.out.below hb2)
  have R1_3 := hid (Q1_2.out.below hb2)
  have Ro_3 := hid (Qo_2.out.below hb2)
  have HB_3 : Hid (Below w.heap.size w w2) := HC_2.out.trans (hb2.mono HC_2.out.size)
  have HT_3 := hid (HU_2.out.below hb2)
  clear ltA cA0 cA1 cA2
  have ltA := XA_3.out.lt
  have cA0 := XA_3.out.cell 0 _ rfl
  have cA1 := XA_3.out.cell 1 _ rfl
  have cA2 := XA_3.out.cell 2 _ rfl
  have lto := Xo_3.out.lt
  have co0 := Xo_3.out.cell 0 _ rfl
  rw [hc.out]
  clear hb2
  go_wp2_with fail
  refine (text_any bo m capb q.den _ R1_3.out (by omega) HT_3.out).mono ?_
  rintro e3 w3 ⟨rfl, hb3⟩
  have XA_4 := hid (XA_3.out.keep hb3)
  have Xo_4 := hid (Xo_3.out.keep hb3)
  have R0_4 := hid (R0_3.out.below hb3)
  have R1_4 := hid (R1_3.out.below hb3)
  have Ro_4 := hid (Ro_3.out.below hb3)
  have HB_4 : Hid (Below w.heap.size w w3) := HB_3.out.trans (hb3.mono HB_3.out.size)
  have HT_4 := hid (HT_3.out.below hb3)
  clear ltA cA0 cA1 cA2 lto co0
  have ltA := XA_4.out.lt
  have cA0 := XA_4.out.cell 0 _ rfl
  have cA1 := XA_4.out.cell 1 _ rfl
  have cA2 := XA_4.out.cell 2 _ rfl
  have lto := Xo_4.out.lt
  have co0 := Xo_4.out.cell 0 _ rfl
  clear hb3
  go_wp2
  go_ret
  refine ⟨?_, HB_4.out⟩
  show Ending.returned (.string _) = _
  congr 2
  apply bytes_ext
  simp [txt, hn'.out, hd'.out, ByteArray.data_append]

set_option maxHeartbeats 2000000 in
set_option maxRecDepth 20000 in
theorem rtext_true_one (ao bo : Option Addr) (n capa m capb : Nat) (q : Rat) (w : World) (h1 : Row w ao n capa (limbs q.num.natAbs)) (h2 : Row w bo m capb (limbs q.den)) (b1 : n ≤ 30000) (b2 : m ≤ 30000) (ht : Tab w) (hn : negB q = true) (hd : q.den = 1) :
    Calls Tryd.prog 52 #[.agg #[.bool true, .slice ao n capa, .slice bo m capb]] w fun e w' => e = .returned (.string ⟨(txt q).toArray⟩) ∧ Below w.heap.size w w' := by
  have hn' := hid hn
  have hd' := hid hd
  have hc : Hid (cmp3 (q.den : Int) ((1 : Nat) : Int) = 0) := by show _ = _; unfold cmp3; rw [if_neg (by omega), if_pos (by omega)]
  clear hn hd
  have XA_0 := hid (bx_new w #[.bool true, .slice ao n capa, .slice bo m capb] 76)
  have HB_0 := hid ((Below.refl _ w).alloc (Nat.le_refl _) (.cells #[.bool true, .slice ao n capa, .slice bo m capb] 76))
  have R0_0 := hid (h1.below HB_0.out)
  have R1_0 := hid (h2.below HB_0.out)
  have HT_0 := hid (ht.below HB_0.out)
  have len0 := h1.len
  have len1 := h2.len
  clear h1 h2 ht
  go_enter Tryd.func52, Tryd.ntmps52
  go_wp2_with fail
  refine (text_any ao n capa q.num.natAbs _ R0_0.out (by omega) HT_0.out).mono ?_
  rintro e0 w0 ⟨rfl, hb0⟩
  have XA_1 := hid (XA_0.out.keep hb0)
  have R0_1 := hid (R0_0.out.below hb0)
  have R1_1 := hid (R1_0.out.below hb0)
  have HB_1 : Hid (Below w.heap.size w w0) := HB_0.out.trans (hb0.mono HB_0.out.size)
  have HT_1 := hid (HT_0.out.below hb0)
  have ltA := XA_1.out.lt
  have cA0 := XA_1.out.cell 0 _ rfl
  have cA1 := XA_1.out.cell 1 _ rfl
  have cA2 := XA_1.out.cell 2 _ rfl
  clear hb0
  have hl0 : (decDigits q.num.natAbs).length ≤ 200000 := Nat.le_trans (dec_len_of _ n len0) (by omega)
  have hl1 : (decDigits q.den).length ≤ 200000 := Nat.le_trans (dec_len_of _ m len1) (by omega)
  go_wp2_with fail
  refine (one_any _).mono ?_
  rintro e1 w1 ⟨v1, rfl, ⟨oo, on, oc, rfl, hr1⟩, hb1⟩
  have XA_2 := hid (XA_1.out.keep hb1)
  have R0_2 := hid (R0_1.out.below hb1)
  have R1_2 := hid (R1_1.out.below hb1)
  have HB_2 : Hid (Below w.heap.size w w1) := HB_1.out.trans (hb1.mono HB_1.out.size)
  have HT_2 := hid (HT_1.out.below hb1)
  clear ltA cA0 cA1 cA2
  have ltA := XA_2.out.lt
  have cA0 := XA_2.out.cell 0 _ rfl
  have cA1 := XA_2.out.cell 1 _ rfl
  have cA2 := XA_2.out.cell 2 _ rfl
  have Ro_2 := hid hr1
  have leno : on = 1 := hr1.len.symm.trans (by rw [limbs_one]; rfl)
  have leno2 : on ≤ 1 := by omega
  clear hb1 hr1 leno
  have YA_2 := hid (bx_past XA_2.out (.cells #[.slice oo on oc] 74))
  have Yo_2 := hid (bx_new w1 #[.slice oo on oc] 74)
  have Q0_2 := hid (R0_2.out.alloc (.cells #[.slice oo on oc] 74))
  have Q1_2 := hid (R1_2.out.alloc (.cells #[.slice oo on oc] 74))
  have Qo_2 := hid (Ro_2.out.alloc (.cells #[.slice oo on oc] 74))
  have HC_2 : Hid (Below w.heap.size w (w1.alloc (.cells #[.slice oo on oc] 74))) := HB_2.out.alloc HB_2.out.size (.cells #[.slice oo on oc] 74)
  have HU_2 := hid (HT_2.out.below ((Below.refl _ _).alloc (Nat.le_refl _) (.cells #[.slice oo on oc] 74)))
  go_wp2_with fail
  refine (compare_any bo oo m capb on oc q.den 1 _ Q1_2.out Qo_2.out (by omega) (by omega)).mono ?_
  rintro e2 w2 ⟨rfl, hb2⟩
  have XA_3 := hid (YA_2.out.keep hb2)
  have Xo_3 := hid (Yo_2.out.keep hb2)
  have R0_3 := hid (Q0_2.out.below hb2)
  have R1_3 := hid (Q1_2.out.below hb2)
  have Ro_3 := hid (Qo_2.out.below hb2)
  have HB_3 : Hid (Below w.heap.size w w2) := HC_2.out.trans (hb2.mono HC_2.out.size)
  have HT_3 := hid (HU_2.out.below hb2)
  clear ltA cA0 cA1 cA2
  have ltA := XA_3.out.lt
  have cA0 := XA_3.out.cell 0 _ rfl
  have cA1 := XA_3.out.cell 1 _ rfl
  have cA2 := XA_3.out.cell 2 _ rfl
  have lto := Xo_3.out.lt
  have co0 := Xo_3.out.cell 0 _ rfl
  rw [hc.out]
  clear hb2
  go_wp2
  go_ret
  refine ⟨?_, HB_3.out⟩
  show Ending.returned (.string _) = _
  congr 2
  apply bytes_ext
  simp [txt, hn'.out, hd'.out, ByteArray.data_append]

set_option maxHeartbeats 2000000 in
set_option maxRecDepth 20000 in
theorem rtext_true_more (ao bo : Option Addr) (n capa m capb : Nat) (q : Rat) (w : World) (h1 : Row w ao n capa (limbs q.num.natAbs)) (h2 : Row w bo m capb (limbs q.den)) (b1 : n ≤ 30000) (b2 : m ≤ 30000) (ht : Tab w) (hn : negB q = true) (hd : 1 < q.den) :
    Calls Tryd.prog 52 #[.agg #[.bool true, .slice ao n capa, .slice bo m capb]] w fun e w' => e = .returned (.string ⟨(txt q).toArray⟩) ∧ Below w.heap.size w w' := by
  have hn' := hid hn
  have hd' := hid hd
  have hc : Hid (cmp3 (q.den : Int) ((1 : Nat) : Int) = 1) := by show _ = _; unfold cmp3; rw [if_neg (by omega), if_neg (by omega)]
  clear hn hd
  have XA_0 := hid (bx_new w #[.bool true, .slice ao n capa, .slice bo m capb] 76)
  have HB_0 := hid ((Below.refl _ w).alloc (Nat.le_refl _) (.cells #[.bool true, .slice ao n capa, .slice bo m capb] 76))
  have R0_0 := hid (h1.below HB_0.out)
  have R1_0 := hid (h2.below HB_0.out)
  have HT_0 := hid (ht.below HB_0.out)
  have len0 := h1.len
  have len1 := h2.len
  clear h1 h2 ht
  go_enter Tryd.func52, Tryd.ntmps52
  go_wp2_with fail
  refine (text_any ao n capa q.num.natAbs _ R0_0.out (by omega) HT_0.out).mono ?_
  rintro e0 w0 ⟨rfl, hb0⟩
  have XA_1 := hid (XA_0.out.keep hb0)
  have R0_1 := hid (R0_0.out.below hb0)
  have R1_1 := hid (R1_0.out.below hb0)
  have HB_1 : Hid (Below w.heap.size w w0) := HB_0.out.trans (hb0.mono HB_0.out.size)
  have HT_1 := hid (HT_0.out.below hb0)
  have ltA := XA_1.out.lt
  have cA0 := XA_1.out.cell 0 _ rfl
  have cA1 := XA_1.out.cell 1 _ rfl
  have cA2 := XA_1.out.cell 2 _ rfl
  clear hb0
  have hl0 : (decDigits q.num.natAbs).length ≤ 200000 := Nat.le_trans (dec_len_of _ n len0) (by omega)
  have hl1 : (decDigits q.den).length ≤ 200000 := Nat.le_trans (dec_len_of _ m len1) (by omega)
  go_wp2_with fail
  refine (one_any _).mono ?_
  rintro e1 w1 ⟨v1, rfl, ⟨oo, on, oc, rfl, hr1⟩, hb1⟩
  have XA_2 := hid (XA_1.out.keep hb1)
  have R0_2 := hid (R0_1.out.below hb1)
  have R1_2 := hid (R1_1.out.below hb1)
  have HB_2 : Hid (Below w.heap.size w w1) := HB_1.out.trans (hb1.mono HB_1.out.size)
  have HT_2 := hid (HT_1.out.below hb1)
  clear ltA cA0 cA1 cA2
  have ltA := XA_2.out.lt
  have cA0 := XA_2.out.cell 0 _ rfl
  have cA1 := XA_2.out.cell 1 _ rfl
  have cA2 := XA_2.out.cell 2 _ rfl
  have Ro_2 := hid hr1
  have leno : on = 1 := hr1.len.symm.trans (by rw [limbs_one]; rfl)
  have leno2 : on ≤ 1 := by omega
  clear hb1 hr1 leno
  have YA_2 := hid (bx_past XA_2.out (.cells #[.slice oo on oc] 74))
  have Yo_2 := hid (bx_new w1 #[.slice oo on oc] 74)
  have Q0_2 := hid (R0_2.out.alloc (.cells #[.slice oo on oc] 74))
  have Q1_2 := hid (R1_2.out.alloc (.cells #[.slice oo on oc] 74))
  have Qo_2 := hid (Ro_2.out.alloc (.cells #[.slice oo on oc] 74))
  have HC_2 : Hid (Below w.heap.size w (w1.alloc (.cells #[.slice oo on oc] 74))) := HB_2.out.alloc HB_2.out.size (.cells #[.slice oo on oc] 74)
  have HU_2 := hid (HT_2.out.below ((Below.refl _ _).alloc (Nat.le_refl _) (.cells #[.slice oo on oc] 74)))
  go_wp2_with fail
  refine (compare_any bo oo m capb on oc q.den 1 _ Q1_2.out Qo_2.out (by omega) (by omega)).mono ?_
  rintro e2 w2 ⟨rfl, hb2⟩
  have XA_3 := hid (YA_2.out.keep hb2)
  have Xo_3 := hid (Yo_2.out.keep hb2)
  have R0_3 := hid (Q0_2.out.below hb2)
  have R1_3 := hid (Q1_2.out.below hb2)
  have Ro_3 := hid (Qo_2.out.below hb2)
  have HB_3 : Hid (Below w.heap.size w w2) := HC_2.out.trans (hb2.mono HC_2.out.size)
  have HT_3 := hid (HU_2.out.below hb2)
  clear ltA cA0 cA1 cA2
  have ltA := XA_3.out.lt
  have cA0 := XA_3.out.cell 0 _ rfl
  have cA1 := XA_3.out.cell 1 _ rfl
  have cA2 := XA_3.out.cell 2 _ rfl
  have lto := Xo_3.out.lt
  have co0 := Xo_3.out.cell 0 _ rfl
  rw [hc.out]
  clear hb2
  go_wp2_with fail
  refine (text_any bo m capb q.den _ R1_3.out (by omega) HT_3.out).mono ?_
  rintro e3 w3 ⟨rfl, hb3⟩
  have XA_4 := hid (XA_3.out.keep hb3)
  have Xo_4 := hid (Xo_3.out.keep hb3)
  have R0_4 := hid (R0_3.out.below hb3)
  have R1_4 := hid (R1_3.out.below hb3)
  have Ro_4 := hid (Ro_3.out.below hb3)
  have HB_4 : Hid (Below w.heap.size w w3) := HB_3.out.trans (hb3.mono HB_3.out.size)
  have HT_4 := hid (HT_3.out.below hb3)
  clear ltA cA0 cA1 cA2 lto co0
  have ltA := XA_4.out.lt
  have cA0 := XA_4.out.cell 0 _ rfl
  have cA1 := XA_4.out.cell 1 _ rfl
  have cA2 := XA_4.out.cell 2 _ rfl
  have lto := Xo_4.out.lt
  have co0 := Xo_4.out.cell 0 _ rfl
  clear hb3
  go_wp2
  go_ret
  refine ⟨?_, HB_4.out⟩
  show Ending.returned (.string _) = _
  congr 2
  apply bytes_ext
  simp [txt, hn'.out, hd'.out, ByteArray.data_append]

theorem rtext_any (ao bo : Option Addr) (n capa m capb : Nat) (q : Rat) (w : World) (h1 : Row w ao n capa (limbs q.num.natAbs)) (h2 : Row w bo m capb (limbs q.den)) (b1 : n ≤ 30000) (b2 : m ≤ 30000) (ht : Tab w) :
    Calls Tryd.prog 52 #[.agg #[.bool (negB q), .slice ao n capa, .slice bo m capb]] w fun e w' => e = .returned (.string ⟨(txt q).toArray⟩) ∧ Below w.heap.size w w' := by
  have hd := den_pos q
  by_cases h : q.den = 1 <;> cases hn : negB q
  · exact rtext_false_one ao bo n capa m capb q w h1 h2 b1 b2 ht hn h
  · exact rtext_true_one ao bo n capa m capb q w h1 h2 b1 b2 ht hn h
  · exact rtext_false_more ao bo n capa m capb q w h1 h2 b1 b2 ht hn (by omega)
  · exact rtext_true_more ao bo n capa m capb q w h1 h2 b1 b2 ht hn (by omega)
end Go.Proofs.YtddbflggcblfcaaDoor
