/- ratio.Parse: of any text. (Laid by mkprs.py.) -/
import Derived.Test.YtddbflggcblfcaaDoorWPrsA
import Derived.Test.YtddbflggcblfcaaDoorWPrsB
import Derived.Deep.RegionHeld3
namespace Go.Proofs.YtddbflggcblfcaaDoor
set_option linter.unusedSimpArgs false
set_option linter.unusedVariables false
open Go.RowKit Por

theorem ext_tail (s : ByteArray) : (s.extract 1 s.size).data.toList = s.data.toList.tail := by
  rw [Go.Lib.extract_data, List.take_of_length_le (by simp), List.drop_one]
theorem ext_take (s : ByteArray) (k : Nat) : (s.extract 0 k).data.toList = s.data.toList.take k := by
  rw [Go.Lib.extract_data, List.drop_zero, Nat.sub_zero]
theorem ext_drop (s : ByteArray) (k : Nat) : (s.extract k s.size).data.toList = s.data.toList.drop k := by
  rw [Go.Lib.extract_data, List.take_of_length_le (by simp)]

/-- what ratio.Parse answers -/
def ParseEnd (w w' : World) (e : Ending) (o : Option Rat) : Prop :=
  match o with
  | none => e = .returned (.tuple #[.agg #[.bool false, .slice none 0 0, .slice none 0 0], .bool false]) ∧ Below w.heap.size w w'
  | some q => ∃ v, e = .returned (.tuple #[v, .bool true]) ∧ Frac w' v q ∧ Below w.heap.size w w'

theorem limbs_dv {l : List UInt8} (h : wholeB l = true) : (limbs (dv l)).length ≤ l.length := by
  refine len_limbs_le (Nat.lt_of_lt_of_le (dv_lt l (whole_all h)) ?_)
  exact Nat.pow_le_pow_left (by omega) _

set_option maxHeartbeats 2000000 in
set_option maxRecDepth 20000 in
theorem parse1_true (s t : ByteArray) (K : Nat) (w : World) (ht : t = s.extract 1 s.size) (hK : slashAt t.data.toList = K) (hts : t.size ≤ 300) (hKt : K ≤ t.size) (hs : s.size ≤ 300) (h0 : 0 < s.size) (hm : ((s[0].toNat : Int) == 45) = true) (hw : Hid (wholeB (t.data.toList.take K) = false)) :
    Calls Tryd.prog 111 #[.string s] w fun e w' => e = .returned (.tuple #[.agg #[.bool false, .slice none 0 0, .slice none 0 0], .bool false]) ∧ Below w.heap.size w w' := by
  have XR_0 := hid (bx_new w #[.bool false, .slice none 0 0, .slice none 0 0] 76)
  have HB_0 := hid ((Below.refl _ w).alloc (Nat.le_refl _) (.cells #[.bool false, .slice none 0 0, .slice none 0 0] 76))
  have HT := hid ht
  have HK := hid hK
  have HS := hid hts
  clear ht hK
  have hut : (t.extract 0 K).data.toList = t.data.toList.take K := ext_take t K
  have HUT := hid hut
  clear hut
  have hus : (t.extract 0 K).size ≤ 300 := by rw [ByteArray.size_extract]; omega
  go_enter Tryd.func111, Tryd.ntmps111
  go_wp2_with fail
  rw [← HT.out]
  refine (slashIn_any t _ (by omega)).mono ?_
  rintro e wz ⟨rfl, rfl⟩
  rw [HK.out]
  have ltR := XR_0.out.lt
  have cR0 := XR_0.out.cell 0 _ rfl
  have zR0 := XR_0.out.frozen 0
  have cR1 := XR_0.out.cell 1 _ rfl
  have zR1 := XR_0.out.frozen 1
  have cR2 := XR_0.out.cell 2 _ rfl
  have zR2 := XR_0.out.frozen 2
  go_wp2_with fail
  refine (parse_no (t.extract 0 K) _ (by omega) (by rw [HUT.out]; exact hw.out)).mono ?_
  rintro e0 w0 ⟨rfl, hb0⟩
  have XR_1 := hid (XR_0.out.keep hb0)
  have HB_1 : Hid (Below w.heap.size w w0) := HB_0.out.trans (hb0.mono HB_0.out.size)
  clear ltR cR0 zR0 cR1 zR1 cR2 zR2
  have ltR := XR_1.out.lt
  have cR0 := XR_1.out.cell 0 _ rfl
  have zR0 := XR_1.out.frozen 0
  have cR1 := XR_1.out.cell 1 _ rfl
  have zR1 := XR_1.out.frozen 1
  have cR2 := XR_1.out.cell 2 _ rfl
  have zR2 := XR_1.out.frozen 2
  clear hb0
  have YR_1 := hid (bx_past XR_1.out (.cells #[.slice none 0 0] 74))
  have Yu_1 := hid (bx_new w0 #[.slice none 0 0] 74)
  have HC_1 : Hid (Below w.heap.size w (w0.alloc (.cells #[.slice none 0 0] 74))) := HB_1.out.alloc HB_1.out.size (.cells #[.slice none 0 0] 74)
  go_wp2
  have Z := bx_past (XR_1.out.put3 (.bool false) (.slice none 0 0) (.slice none 0 0)) (.cells #[.slice none 0 0] 74)
  have z0 := Z.cell 0 _ rfl
  have z1 := Z.cell 1 _ rfl
  have z2 := Z.cell 2 _ rfl
  unfold wput3 at z0 z1 z2
  have BB := below_put3 HB_1.out (Nat.le_refl _) (.bool false) (.slice none 0 0) (.slice none 0 0)
  exact bodyPost_ret (v := .tuple #[.agg #[.bool false, .slice none 0 0, .slice none 0 0], .bool false]) (by simp [results, Tryd.results111, go_sem, z0, z1, z2]) rfl ⟨rfl, BB.alloc BB.size _⟩

set_option maxHeartbeats 2000000 in
set_option maxRecDepth 20000 in
theorem parse2_true (s t : ByteArray) (K : Nat) (w : World) (ht : t = s.extract 1 s.size) (hK : slashAt t.data.toList = K) (hts : t.size ≤ 300) (hKt : K ≤ t.size) (hs : s.size ≤ 300) (h0 : 0 < s.size) (hm : ((s[0].toNat : Int) == 45) = true) (X : Nat) (hw : Hid (wholeB (t.data.toList.take K) = true)) (hX : Hid (dv (t.data.toList.take K) = X)) (hz : isZ X = true) :
    Calls Tryd.prog 111 #[.string s] w fun e w' => e = .returned (.tuple #[.agg #[.bool false, .slice none 0 0, .slice none 0 0], .bool false]) ∧ Below w.heap.size w w' := by
  have XR_0 := hid (bx_new w #[.bool false, .slice none 0 0, .slice none 0 0] 76)
  have HB_0 := hid ((Below.refl _ w).alloc (Nat.le_refl _) (.cells #[.bool false, .slice none 0 0, .slice none 0 0] 76))
  have HT := hid ht
  have HK := hid hK
  have HS := hid hts
  clear ht hK
  have hut : (t.extract 0 K).data.toList = t.data.toList.take K := ext_take t K
  have HUT := hid hut
  clear hut
  have hus : (t.extract 0 K).size ≤ 300 := by rw [ByteArray.size_extract]; omega
  go_enter Tryd.func111, Tryd.ntmps111
  go_wp2_with fail
  rw [← HT.out]
  refine (slashIn_any t _ (by omega)).mono ?_
  rintro e wz ⟨rfl, rfl⟩
  rw [HK.out]
  have ltR := XR_0.out.lt
  have cR0 := XR_0.out.cell 0 _ rfl
  have zR0 := XR_0.out.frozen 0
  have cR1 := XR_0.out.cell 1 _ rfl
  have zR1 := XR_0.out.frozen 1
  have cR2 := XR_0.out.cell 2 _ rfl
  have zR2 := XR_0.out.frozen 2
  go_wp2_with fail
  refine (parse_yes (t.extract 0 K) _ (by omega) (by rw [HUT.out]; exact hw.out)).mono ?_
  rintro e0 w0 ⟨v0, rfl, ⟨uo, un, uc, rfl, hr0⟩, hb0⟩
  have XR_1 := hid (XR_0.out.keep hb0)
  have HB_1 : Hid (Below w.heap.size w w0) := HB_0.out.trans (hb0.mono HB_0.out.size)
  clear ltR cR0 zR0 cR1 zR1 cR2 zR2
  have ltR := XR_1.out.lt
  have cR0 := XR_1.out.cell 0 _ rfl
  have zR0 := XR_1.out.frozen 0
  have cR1 := XR_1.out.cell 1 _ rfl
  have zR1 := XR_1.out.frozen 1
  have cR2 := XR_1.out.cell 2 _ rfl
  have zR2 := XR_1.out.frozen 2
  rw [HUT.out, hX.out] at hr0
  have Ru_1 := hid hr0
  have lenu : un ≤ 300 := by have h5 := hr0.len; have h6 := limbs_dv hw.out; rw [hX.out] at h6; have h7 : (t.data.toList.take K).length ≤ K := List.length_take_le _ _; omega
  clear hb0 hr0
  have YR_1 := hid (bx_past XR_1.out (.cells #[.slice uo un uc] 74))
  have Yu_1 := hid (bx_new w0 #[.slice uo un uc] 74)
  have Qu_1 := hid (Ru_1.out.alloc (.cells #[.slice uo un uc] 74))
  have HC_1 : Hid (Below w.heap.size w (w0.alloc (.cells #[.slice uo un uc] 74))) := HB_1.out.alloc HB_1.out.size (.cells #[.slice uo un uc] 74)
  go_wp2_with fail
  refine (isZero_any uo un uc X _ Qu_1.out (by omega)).mono ?_
  rintro e1 w1 ⟨rfl, hb1⟩
  have XR_2 := hid (YR_1.out.keep hb1)
  have Xu_2 := hid (Yu_1.out.keep hb1)
  have Ru_2 := hid (Qu_1.out.below hb1)
  have HB_2 : Hid (Below w.heap.size w w1) := HC_1.out.trans (hb1.mono HC_1.out.size)
  clear ltR cR0 zR0 cR1 zR1 cR2 zR2
  have ltR := XR_2.out.lt
  have cR0 := XR_2.out.cell 0 _ rfl
  have zR0 := XR_2.out.frozen 0
  have cR1 := XR_2.out.cell 1 _ rfl
  have zR1 := XR_2.out.frozen 1
  have cR2 := XR_2.out.cell 2 _ rfl
  have zR2 := XR_2.out.frozen 2
  have ltu := Xu_2.out.lt
  have cu0 := Xu_2.out.cell 0 _ rfl
  clear hb1
  go_wp2
  have Z := XR_2.out.put3 (.bool false) (.slice none 0 0) (.slice none 0 0)
  have z0 := Z.cell 0 _ rfl
  have z1 := Z.cell 1 _ rfl
  have z2 := Z.cell 2 _ rfl
  unfold wput3 at z0 z1 z2
  have BB := below_put3 HB_2.out (Nat.le_refl _) (.bool false) (.slice none 0 0) (.slice none 0 0)
  exact bodyPost_ret (v := .tuple #[.agg #[.bool false, .slice none 0 0, .slice none 0 0], .bool false]) (by simp [results, Tryd.results111, go_sem, z0, z1, z2]) rfl ⟨rfl, BB⟩

set_option maxHeartbeats 2000000 in
set_option maxRecDepth 20000 in
theorem parse4_true (s t : ByteArray) (K : Nat) (w : World) (ht : t = s.extract 1 s.size) (hK : slashAt t.data.toList = K) (hts : t.size ≤ 300) (hKt : K ≤ t.size) (hs : s.size ≤ 300) (h0 : 0 < s.size) (hm : ((s[0].toNat : Int) == 45) = true) (X : Nat) (hw : Hid (wholeB (t.data.toList.take K) = true)) (hX : Hid (dv (t.data.toList.take K) = X)) (hz : isZ X = false) (hne : ((K : Int) == (t.size : Int)) = false) (hlt : K < t.size) (hv : Hid (wholeB (t.data.toList.drop (K + 1)) = false)) :
    Calls Tryd.prog 111 #[.string s] w fun e w' => e = .returned (.tuple #[.agg #[.bool false, .slice none 0 0, .slice none 0 0], .bool false]) ∧ Below w.heap.size w w' := by
  have hdt : (t.extract (K + 1) t.size).data.toList = t.data.toList.drop (K + 1) := ext_drop t (K + 1)
  have HDT := hid hdt
  have hds : (t.extract (K + 1) t.size).size ≤ 300 := by rw [ByteArray.size_extract]; omega
  clear hdt
  have XR_0 := hid (bx_new w #[.bool false, .slice none 0 0, .slice none 0 0] 76)
  have HB_0 := hid ((Below.refl _ w).alloc (Nat.le_refl _) (.cells #[.bool false, .slice none 0 0, .slice none 0 0] 76))
  have HT := hid ht
  have HK := hid hK
  have HS := hid hts
  clear ht hK
  have hut : (t.extract 0 K).data.toList = t.data.toList.take K := ext_take t K
  have HUT := hid hut
  clear hut
  have hus : (t.extract 0 K).size ≤ 300 := by rw [ByteArray.size_extract]; omega
  go_enter Tryd.func111, Tryd.ntmps111
  go_wp2_with fail
  rw [← HT.out]
  refine (slashIn_any t _ (by omega)).mono ?_
  rintro e wz ⟨rfl, rfl⟩
  rw [HK.out]
  have ltR := XR_0.out.lt
  have cR0 := XR_0.out.cell 0 _ rfl
  have zR0 := XR_0.out.frozen 0
  have cR1 := XR_0.out.cell 1 _ rfl
  have zR1 := XR_0.out.frozen 1
  have cR2 := XR_0.out.cell 2 _ rfl
  have zR2 := XR_0.out.frozen 2
  go_wp2_with fail
  refine (parse_yes (t.extract 0 K) _ (by omega) (by rw [HUT.out]; exact hw.out)).mono ?_
  rintro e0 w0 ⟨v0, rfl, ⟨uo, un, uc, rfl, hr0⟩, hb0⟩
  have XR_1 := hid (XR_0.out.keep hb0)
  have HB_1 : Hid (Below w.heap.size w w0) := HB_0.out.trans (hb0.mono HB_0.out.size)
  clear ltR cR0 zR0 cR1 zR1 cR2 zR2
  have ltR := XR_1.out.lt
  have cR0 := XR_1.out.cell 0 _ rfl
  have zR0 := XR_1.out.frozen 0
  have cR1 := XR_1.out.cell 1 _ rfl
  have zR1 := XR_1.out.frozen 1
  have cR2 := XR_1.out.cell 2 _ rfl
  have zR2 := XR_1.out.frozen 2
  rw [HUT.out, hX.out] at hr0
  have Ru_1 := hid hr0
  have lenu : un ≤ 300 := by have h5 := hr0.len; have h6 := limbs_dv hw.out; rw [hX.out] at h6; have h7 : (t.data.toList.take K).length ≤ K := List.length_take_le _ _; omega
  clear hb0 hr0
  have YR_1 := hid (bx_past XR_1.out (.cells #[.slice uo un uc] 74))
  have Yu_1 := hid (bx_new w0 #[.slice uo un uc] 74)
  have Qu_1 := hid (Ru_1.out.alloc (.cells #[.slice uo un uc] 74))
  have HC_1 : Hid (Below w.heap.size w (w0.alloc (.cells #[.slice uo un uc] 74))) := HB_1.out.alloc HB_1.out.size (.cells #[.slice uo un uc] 74)
  go_wp2_with fail
  refine (isZero_any uo un uc X _ Qu_1.out (by omega)).mono ?_
  rintro e1 w1 ⟨rfl, hb1⟩
  have XR_2 := hid (YR_1.out.keep hb1)
  have Xu_2 := hid (Yu_1.out.keep hb1)
  have Ru_2 := hid (Qu_1.out.below hb1)
  have HB_2 : Hid (Below w.heap.size w w1) := HC_1.out.trans (hb1.mono HC_1.out.size)
  clear ltR cR0 zR0 cR1 zR1 cR2 zR2
  have ltR := XR_2.out.lt
  have cR0 := XR_2.out.cell 0 _ rfl
  have zR0 := XR_2.out.frozen 0
  have cR1 := XR_2.out.cell 1 _ rfl
  have zR1 := XR_2.out.frozen 1
  have cR2 := XR_2.out.cell 2 _ rfl
  have zR2 := XR_2.out.frozen 2
  have ltu := Xu_2.out.lt
  have cu0 := Xu_2.out.cell 0 _ rfl
  clear hb1
  go_wp2_with fail
  refine (parse_no (t.extract (K + 1) t.size) _ (by omega) (by rw [HDT.out]; exact hv.out)).mono ?_
  rintro e2 w2 ⟨rfl, hb2⟩
  have XR_3 := hid (XR_2.out.keep hb2)
  have Xu_3 := hid (Xu_2.out.keep hb2)
  have Ru_3 := hid (Ru_2.out.below hb2)
  have HB_3 : Hid (Below w.heap.size w w2) := HB_2.out.trans (hb2.mono HB_2.out.size)
  clear ltR cR0 zR0 cR1 zR1 cR2 zR2 ltu cu0
  have ltR := XR_3.out.lt
  have cR0 := XR_3.out.cell 0 _ rfl
  have zR0 := XR_3.out.frozen 0
  have cR1 := XR_3.out.cell 1 _ rfl
  have zR1 := XR_3.out.frozen 1
  have cR2 := XR_3.out.cell 2 _ rfl
  have zR2 := XR_3.out.frozen 2
  have ltu := Xu_3.out.lt
  have cu0 := Xu_3.out.cell 0 _ rfl
  clear hb2
  have YR_3 := hid (bx_past XR_3.out (.cells #[.slice none 0 0] 74))
  have Yu_3 := hid (bx_past Xu_3.out (.cells #[.slice none 0 0] 74))
  have Yy_3 := hid (bx_new w2 #[.slice none 0 0] 74)
  have Qu_3 := hid (Ru_3.out.alloc (.cells #[.slice none 0 0] 74))
  have HC_3 : Hid (Below w.heap.size w (w2.alloc (.cells #[.slice none 0 0] 74))) := HB_3.out.alloc HB_3.out.size (.cells #[.slice none 0 0] 74)
  go_wp2
  have Z := bx_past (XR_3.out.put3 (.bool false) (.slice none 0 0) (.slice none 0 0)) (.cells #[.slice none 0 0] 74)
  have z0 := Z.cell 0 _ rfl
  have z1 := Z.cell 1 _ rfl
  have z2 := Z.cell 2 _ rfl
  unfold wput3 at z0 z1 z2
  have BB := below_put3 HB_3.out (Nat.le_refl _) (.bool false) (.slice none 0 0) (.slice none 0 0)
  exact bodyPost_ret (v := .tuple #[.agg #[.bool false, .slice none 0 0, .slice none 0 0], .bool false]) (by simp [results, Tryd.results111, go_sem, z0, z1, z2]) rfl ⟨rfl, BB.alloc BB.size _⟩

set_option maxHeartbeats 2000000 in
set_option maxRecDepth 20000 in
theorem parse5_true (s t : ByteArray) (K : Nat) (w : World) (ht : t = s.extract 1 s.size) (hK : slashAt t.data.toList = K) (hts : t.size ≤ 300) (hKt : K ≤ t.size) (hs : s.size ≤ 300) (h0 : 0 < s.size) (hm : ((s[0].toNat : Int) == 45) = true) (X : Nat) (hw : Hid (wholeB (t.data.toList.take K) = true)) (hX : Hid (dv (t.data.toList.take K) = X)) (hz : isZ X = false) (hne : ((K : Int) == (t.size : Int)) = false) (hlt : K < t.size) (Y : Nat) (hv : Hid (wholeB (t.data.toList.drop (K + 1)) = true)) (hY : Hid (dv (t.data.toList.drop (K + 1)) = Y)) (hl : Hid (lowB X Y = false)) :
    Calls Tryd.prog 111 #[.string s] w fun e w' => e = .returned (.tuple #[.agg #[.bool false, .slice none 0 0, .slice none 0 0], .bool false]) ∧ Below w.heap.size w w' := by
  have hdt : (t.extract (K + 1) t.size).data.toList = t.data.toList.drop (K + 1) := ext_drop t (K + 1)
  have HDT := hid hdt
  have hds : (t.extract (K + 1) t.size).size ≤ 300 := by rw [ByteArray.size_extract]; omega
  clear hdt
  have XR_0 := hid (bx_new w #[.bool false, .slice none 0 0, .slice none 0 0] 76)
  have HB_0 := hid ((Below.refl _ w).alloc (Nat.le_refl _) (.cells #[.bool false, .slice none 0 0, .slice none 0 0] 76))
  have HT := hid ht
  have HK := hid hK
  have HS := hid hts
  clear ht hK
  have hut : (t.extract 0 K).data.toList = t.data.toList.take K := ext_take t K
  have HUT := hid hut
  clear hut
  have hus : (t.extract 0 K).size ≤ 300 := by rw [ByteArray.size_extract]; omega
  go_enter Tryd.func111, Tryd.ntmps111
  go_wp2_with fail
  rw [← HT.out]
  refine (slashIn_any t _ (by omega)).mono ?_
  rintro e wz ⟨rfl, rfl⟩
  rw [HK.out]
  have ltR := XR_0.out.lt
  have cR0 := XR_0.out.cell 0 _ rfl
  have zR0 := XR_0.out.frozen 0
  have cR1 := XR_0.out.cell 1 _ rfl
  have zR1 := XR_0.out.frozen 1
  have cR2 := XR_0.out.cell 2 _ rfl
  have zR2 := XR_0.out.frozen 2
  go_wp2_with fail
  refine (parse_yes (t.extract 0 K) _ (by omega) (by rw [HUT.out]; exact hw.out)).mono ?_
  rintro e0 w0 ⟨v0, rfl, ⟨uo, un, uc, rfl, hr0⟩, hb0⟩
  have XR_1 := hid (XR_0.out.keep hb0)
  have HB_1 : Hid (Below w.heap.size w w0) := HB_0.out.trans (hb0.mono HB_0.out.size)
  clear ltR cR0 zR0 cR1 zR1 cR2 zR2
  have ltR := XR_1.out.lt
  have cR0 := XR_1.out.cell 0 _ rfl
  have zR0 := XR_1.out.frozen 0
  have cR1 := XR_1.out.cell 1 _ rfl
  have zR1 := XR_1.out.frozen 1
  have cR2 := XR_1.out.cell 2 _ rfl
  have zR2 := XR_1.out.frozen 2
  rw [HUT.out, hX.out] at hr0
  have Ru_1 := hid hr0
  have lenu : un ≤ 300 := by have h5 := hr0.len; have h6 := limbs_dv hw.out; rw [hX.out] at h6; have h7 : (t.data.toList.take K).length ≤ K := List.length_take_le _ _; omega
  clear hb0 hr0
  have YR_1 := hid (bx_past XR_1.out (.cells #[.slice uo un uc] 74))
  have Yu_1 := hid (bx_new w0 #[.slice uo un uc] 74)
  have Qu_1 := hid (Ru_1.out.alloc (.cells #[.slice uo un uc] 74))
  have HC_1 : Hid (Below w.heap.size w (w0.alloc (.cells #[.slice uo un uc] 74))) := HB_1.out.alloc HB_1.out.size (.cells #[.slice uo un uc] 74)
  go_wp2_with fail
  refine (isZero_any uo un uc X _ Qu_1.out (by omega)).mono ?_
  rintro e1 w1 ⟨rfl, hb1⟩
  have XR_2 := hid (YR_1.out.keep hb1)
  have Xu_2 := hid (Yu_1.out.keep hb1)
  have Ru_2 := hid (Qu_1.out.below hb1)
  have HB_2 : Hid (Below w.heap.size w w1) := HC_1.out.trans (hb1.mono HC_1.out.size)
  clear ltR cR0 zR0 cR1 zR1 cR2 zR2
  have ltR := XR_2.out.lt
  have cR0 := XR_2.out.cell 0 _ rfl
  have zR0 := XR_2.out.frozen 0
  have cR1 := XR_2.out.cell 1 _ rfl
  have zR1 := XR_2.out.frozen 1
  have cR2 := XR_2.out.cell 2 _ rfl
  have zR2 := XR_2.out.frozen 2
  have ltu := Xu_2.out.lt
  have cu0 := Xu_2.out.cell 0 _ rfl
  clear hb1
  go_wp2_with fail
  refine (parse_yes (t.extract (K + 1) t.size) _ (by omega) (by rw [HDT.out]; exact hv.out)).mono ?_
  rintro e2 w2 ⟨v2, rfl, ⟨yo, yn, yc, rfl, hr2⟩, hb2⟩
  have XR_3 := hid (XR_2.out.keep hb2)
  have Xu_3 := hid (Xu_2.out.keep hb2)
  have Ru_3 := hid (Ru_2.out.below hb2)
  have HB_3 : Hid (Below w.heap.size w w2) := HB_2.out.trans (hb2.mono HB_2.out.size)
  clear ltR cR0 zR0 cR1 zR1 cR2 zR2 ltu cu0
  have ltR := XR_3.out.lt
  have cR0 := XR_3.out.cell 0 _ rfl
  have zR0 := XR_3.out.frozen 0
  have cR1 := XR_3.out.cell 1 _ rfl
  have zR1 := XR_3.out.frozen 1
  have cR2 := XR_3.out.cell 2 _ rfl
  have zR2 := XR_3.out.frozen 2
  have ltu := Xu_3.out.lt
  have cu0 := Xu_3.out.cell 0 _ rfl
  rw [HDT.out, hY.out] at hr2
  have Ry_3 := hid hr2
  have leny : yn ≤ 300 := by have h5 := hr2.len; have h6 := limbs_dv hv.out; rw [hY.out, List.length_drop] at h6; have h7 : t.data.toList.length = t.size := (by simp); omega
  clear hb2 hr2
  have YR_3 := hid (bx_past XR_3.out (.cells #[.slice yo yn yc] 74))
  have Yu_3 := hid (bx_past Xu_3.out (.cells #[.slice yo yn yc] 74))
  have Yy_3 := hid (bx_new w2 #[.slice yo yn yc] 74)
  have Qu_3 := hid (Ru_3.out.alloc (.cells #[.slice yo yn yc] 74))
  have Qy_3 := hid (Ry_3.out.alloc (.cells #[.slice yo yn yc] 74))
  have HC_3 : Hid (Below w.heap.size w (w2.alloc (.cells #[.slice yo yn yc] 74))) := HB_3.out.alloc HB_3.out.size (.cells #[.slice yo yn yc] 74)
  go_wp2_with fail
  refine (areLowest_any uo yo un uc yn yc X Y _ Qu_3.out Qy_3.out (by omega) (by omega)).mono ?_
  rintro e3 w3 ⟨rfl, hb3⟩
  have XR_4 := hid (YR_3.out.keep hb3)
  have Xu_4 := hid (Yu_3.out.keep hb3)
  have Xy_4 := hid (Yy_3.out.keep hb3)
  have Ru_4 := hid (Qu_3.out.below hb3)
  have Ry_4 := hid (Qy_3.out.below hb3)
  have HB_4 : Hid (Below w.heap.size w w3) := HC_3.out.trans (hb3.mono HC_3.out.size)
  clear ltR cR0 zR0 cR1 zR1 cR2 zR2 ltu cu0
  have ltR := XR_4.out.lt
  have cR0 := XR_4.out.cell 0 _ rfl
  have zR0 := XR_4.out.frozen 0
  have cR1 := XR_4.out.cell 1 _ rfl
  have zR1 := XR_4.out.frozen 1
  have cR2 := XR_4.out.cell 2 _ rfl
  have zR2 := XR_4.out.frozen 2
  have ltu := Xu_4.out.lt
  have cu0 := Xu_4.out.cell 0 _ rfl
  have lty := Xy_4.out.lt
  have cy0 := Xy_4.out.cell 0 _ rfl
  rw [hl.out]
  clear hb3
  go_wp2
  have Z := XR_4.out.put3 (.bool false) (.slice none 0 0) (.slice none 0 0)
  have z0 := Z.cell 0 _ rfl
  have z1 := Z.cell 1 _ rfl
  have z2 := Z.cell 2 _ rfl
  unfold wput3 at z0 z1 z2
  have BB := below_put3 HB_4.out (Nat.le_refl _) (.bool false) (.slice none 0 0) (.slice none 0 0)
  exact bodyPost_ret (v := .tuple #[.agg #[.bool false, .slice none 0 0, .slice none 0 0], .bool false]) (by simp [results, Tryd.results111, go_sem, z0, z1, z2]) rfl ⟨rfl, BB⟩

set_option maxHeartbeats 2000000 in
set_option maxRecDepth 20000 in
theorem parse6_true (s t : ByteArray) (K : Nat) (w : World) (ht : t = s.extract 1 s.size) (hK : slashAt t.data.toList = K) (hts : t.size ≤ 300) (hKt : K ≤ t.size) (hs : s.size ≤ 300) (h0 : 0 < s.size) (hm : ((s[0].toNat : Int) == 45) = true) (X : Nat) (hw : Hid (wholeB (t.data.toList.take K) = true)) (hX : Hid (dv (t.data.toList.take K) = X)) (hz : isZ X = false) (hne : ((K : Int) == (t.size : Int)) = false) (hlt : K < t.size) (Y : Nat) (hv : Hid (wholeB (t.data.toList.drop (K + 1)) = true)) (hY : Hid (dv (t.data.toList.drop (K + 1)) = Y)) (hl : Hid (lowB X Y = true)) (q : Rat) (hq : Hid (q.num.natAbs = X ∧ q.den = Y ∧ negB q = true)) :
    Calls Tryd.prog 111 #[.string s] w fun e w' => ∃ v, e = .returned (.tuple #[v, .bool true]) ∧ Frac w' v q ∧ Below w.heap.size w w' := by
  have hdt : (t.extract (K + 1) t.size).data.toList = t.data.toList.drop (K + 1) := ext_drop t (K + 1)
  have HDT := hid hdt
  have hds : (t.extract (K + 1) t.size).size ≤ 300 := by rw [ByteArray.size_extract]; omega
  clear hdt
  have XR_0 := hid (bx_new w #[.bool false, .slice none 0 0, .slice none 0 0] 76)
  have HB_0 := hid ((Below.refl _ w).alloc (Nat.le_refl _) (.cells #[.bool false, .slice none 0 0, .slice none 0 0] 76))
  have HT := hid ht
  have HK := hid hK
  have HS := hid hts
  clear ht hK
  have hut : (t.extract 0 K).data.toList = t.data.toList.take K := ext_take t K
  have HUT := hid hut
  clear hut
  have hus : (t.extract 0 K).size ≤ 300 := by rw [ByteArray.size_extract]; omega
  go_enter Tryd.func111, Tryd.ntmps111
  go_wp2_with fail
  rw [← HT.out]
  refine (slashIn_any t _ (by omega)).mono ?_
  rintro e wz ⟨rfl, rfl⟩
  rw [HK.out]
  have ltR := XR_0.out.lt
  have cR0 := XR_0.out.cell 0 _ rfl
  have zR0 := XR_0.out.frozen 0
  have cR1 := XR_0.out.cell 1 _ rfl
  have zR1 := XR_0.out.frozen 1
  have cR2 := XR_0.out.cell 2 _ rfl
  have zR2 := XR_0.out.frozen 2
  go_wp2_with fail
  refine (parse_yes (t.extract 0 K) _ (by omega) (by rw [HUT.out]; exact hw.out)).mono ?_
  rintro e0 w0 ⟨v0, rfl, ⟨uo, un, uc, rfl, hr0⟩, hb0⟩
  have XR_1 := hid (XR_0.out.keep hb0)
  have HB_1 : Hid (Below w.heap.size w w0) := HB_0.out.trans (hb0.mono HB_0.out.size)
  clear ltR cR0 zR0 cR1 zR1 cR2 zR2
  have ltR := XR_1.out.lt
  have cR0 := XR_1.out.cell 0 _ rfl
  have zR0 := XR_1.out.frozen 0
  have cR1 := XR_1.out.cell 1 _ rfl
  have zR1 := XR_1.out.frozen 1
  have cR2 := XR_1.out.cell 2 _ rfl
  have zR2 := XR_1.out.frozen 2
  rw [HUT.out, hX.out] at hr0
  have Ru_1 := hid hr0
  have lenu : un ≤ 300 := by have h5 := hr0.len; have h6 := limbs_dv hw.out; rw [hX.out] at h6; have h7 : (t.data.toList.take K).length ≤ K := List.length_take_le _ _; omega
  clear hb0 hr0
  have YR_1 := hid (bx_past XR_1.out (.cells #[.slice uo un uc] 74))
  have Yu_1 := hid (bx_new w0 #[.slice uo un uc] 74)
  have Qu_1 := hid (Ru_1.out.alloc (.cells #[.slice uo un uc] 74))
  have HC_1 : Hid (Below w.heap.size w (w0.alloc (.cells #[.slice uo un uc] 74))) := HB_1.out.alloc HB_1.out.size (.cells #[.slice uo un uc] 74)
  go_wp2_with fail
  refine (isZero_any uo un uc X _ Qu_1.out (by omega)).mono ?_
  rintro e1 w1 ⟨rfl, hb1⟩
  have XR_2 := hid (YR_1.out.keep hb1)
  have Xu_2 := hid (Yu_1.out.keep hb1)
  have Ru_2 := hid (Qu_1.out.below hb1)
  have HB_2 : Hid (Below w.heap.size w w1) := HC_1.out.trans (hb1.mono HC_1.out.size)
  clear ltR cR0 zR0 cR1 zR1 cR2 zR2
  have ltR := XR_2.out.lt
  have cR0 := XR_2.out.cell 0 _ rfl
  have zR0 := XR_2.out.frozen 0
  have cR1 := XR_2.out.cell 1 _ rfl
  have zR1 := XR_2.out.frozen 1
  have cR2 := XR_2.out.cell 2 _ rfl
  have zR2 := XR_2.out.frozen 2
  have ltu := Xu_2.out.lt
  have cu0 := Xu_2.out.cell 0 _ rfl
  clear hb1
  go_wp2_with fail
  refine (parse_yes (t.extract (K + 1) t.size) _ (by omega) (by rw [HDT.out]; exact hv.out)).mono ?_
  rintro e2 w2 ⟨v2, rfl, ⟨yo, yn, yc, rfl, hr2⟩, hb2⟩
  have XR_3 := hid (XR_2.out.keep hb2)
  have Xu_3 := hid (Xu_2.out.keep hb2)
  have Ru_3 := hid (Ru_2.out.below hb2)
  have HB_3 : Hid (Below w.heap.size w w2) := HB_2.out.trans (hb2.mono HB_2.out.size)
  clear ltR cR0 zR0 cR1 zR1 cR2 zR2 ltu cu0
  have ltR := XR_3.out.lt
  have cR0 := XR_3.out.cell 0 _ rfl
  have zR0 := XR_3.out.frozen 0
  have cR1 := XR_3.out.cell 1 _ rfl
  have zR1 := XR_3.out.frozen 1
  have cR2 := XR_3.out.cell 2 _ rfl
  have zR2 := XR_3.out.frozen 2
  have ltu := Xu_3.out.lt
  have cu0 := Xu_3.out.cell 0 _ rfl
  rw [HDT.out, hY.out] at hr2
  have Ry_3 := hid hr2
  have leny : yn ≤ 300 := by have h5 := hr2.len; have h6 := limbs_dv hv.out; rw [hY.out, List.length_drop] at h6; have h7 : t.data.toList.length = t.size := (by simp); omega
  clear hb2 hr2
  have YR_3 := hid (bx_past XR_3.out (.cells #[.slice yo yn yc] 74))
  have Yu_3 := hid (bx_past Xu_3.out (.cells #[.slice yo yn yc] 74))
  have Yy_3 := hid (bx_new w2 #[.slice yo yn yc] 74)
  have Qu_3 := hid (Ru_3.out.alloc (.cells #[.slice yo yn yc] 74))
  have Qy_3 := hid (Ry_3.out.alloc (.cells #[.slice yo yn yc] 74))
  have HC_3 : Hid (Below w.heap.size w (w2.alloc (.cells #[.slice yo yn yc] 74))) := HB_3.out.alloc HB_3.out.size (.cells #[.slice yo yn yc] 74)
  go_wp2_with fail
  refine (areLowest_any uo yo un uc yn yc X Y _ Qu_3.out Qy_3.out (by omega) (by omega)).mono ?_
  rintro e3 w3 ⟨rfl, hb3⟩
  have XR_4 := hid (YR_3.out.keep hb3)
  have Xu_4 := hid (Yu_3.out.keep hb3)
  have Xy_4 := hid (Yy_3.out.keep hb3)
  have Ru_4 := hid (Qu_3.out.below hb3)
  have Ry_4 := hid (Qy_3.out.below hb3)
  have HB_4 : Hid (Below w.heap.size w w3) := HC_3.out.trans (hb3.mono HC_3.out.size)
  clear ltR cR0 zR0 cR1 zR1 cR2 zR2 ltu cu0
  have ltR := XR_4.out.lt
  have cR0 := XR_4.out.cell 0 _ rfl
  have zR0 := XR_4.out.frozen 0
  have cR1 := XR_4.out.cell 1 _ rfl
  have zR1 := XR_4.out.frozen 1
  have cR2 := XR_4.out.cell 2 _ rfl
  have zR2 := XR_4.out.frozen 2
  have ltu := Xu_4.out.lt
  have cu0 := Xu_4.out.cell 0 _ rfl
  have lty := Xy_4.out.lt
  have cy0 := Xy_4.out.cell 0 _ rfl
  rw [hl.out]
  clear hb3
  go_wp2
  have Z := XR_4.out.put3 (.bool true) (.slice uo un uc) (.slice yo yn yc)
  have z0 := Z.cell 0 _ rfl
  have z1 := Z.cell 1 _ rfl
  have z2 := Z.cell 2 _ rfl
  unfold wput3 at z0 z1 z2
  refine bodyPost_ret (v := .tuple #[.agg #[.bool true, .slice uo un uc, .slice yo yn yc], .bool true]) (by simp [results, Tryd.results111, go_sem, z0, z1, z2]) rfl ⟨_, rfl, ⟨uo, un, uc, yo, yn, yc, ?_, ?_, ?_⟩, below_put3 HB_4.out (Nat.le_refl _) _ _ _⟩
  · rw [hq.out.2.2]
  · rw [hq.out.1]; exact Ru_4.out.put3 XR_4.out (by decide) _ _ _
  · rw [hq.out.2.1]; exact Ry_4.out.put3 XR_4.out (by decide) _ _ _

set_option maxHeartbeats 2000000 in
set_option maxRecDepth 20000 in
theorem parse1_false (t : ByteArray) (K : Nat) (w : World) (hK : slashAt t.data.toList = K) (hts : t.size ≤ 300) (hKt : K ≤ t.size) (h0 : 0 < t.size) (hm : ((t[0].toNat : Int) == 45) = false) (hw : Hid (wholeB (t.data.toList.take K) = false)) :
    Calls Tryd.prog 111 #[.string t] w fun e w' => e = .returned (.tuple #[.agg #[.bool false, .slice none 0 0, .slice none 0 0], .bool false]) ∧ Below w.heap.size w w' := by
  have XR_0 := hid (bx_new w #[.bool false, .slice none 0 0, .slice none 0 0] 76)
  have HB_0 := hid ((Below.refl _ w).alloc (Nat.le_refl _) (.cells #[.bool false, .slice none 0 0, .slice none 0 0] 76))
  have HK := hid hK
  have HS := hid hts
  clear hK
  have hut : (t.extract 0 K).data.toList = t.data.toList.take K := ext_take t K
  have HUT := hid hut
  clear hut
  have hus : (t.extract 0 K).size ≤ 300 := by rw [ByteArray.size_extract]; omega
  go_enter Tryd.func111, Tryd.ntmps111
  go_wp2_with fail
  refine (slashIn_any t _ (by omega)).mono ?_
  rintro e wz ⟨rfl, rfl⟩
  rw [HK.out]
  have ltR := XR_0.out.lt
  have cR0 := XR_0.out.cell 0 _ rfl
  have zR0 := XR_0.out.frozen 0
  have cR1 := XR_0.out.cell 1 _ rfl
  have zR1 := XR_0.out.frozen 1
  have cR2 := XR_0.out.cell 2 _ rfl
  have zR2 := XR_0.out.frozen 2
  go_wp2_with fail
  refine (parse_no (t.extract 0 K) _ (by omega) (by rw [HUT.out]; exact hw.out)).mono ?_
  rintro e0 w0 ⟨rfl, hb0⟩
  have XR_1 := hid (XR_0.out.keep hb0)
  have HB_1 : Hid (Below w.heap.size w w0) := HB_0.out.trans (hb0.mono HB_0.out.size)
  clear ltR cR0 zR0 cR1 zR1 cR2 zR2
  have ltR := XR_1.out.lt
  have cR0 := XR_1.out.cell 0 _ rfl
  have zR0 := XR_1.out.frozen 0
  have cR1 := XR_1.out.cell 1 _ rfl
  have zR1 := XR_1.out.frozen 1
  have cR2 := XR_1.out.cell 2 _ rfl
  have zR2 := XR_1.out.frozen 2
  clear hb0
  have YR_1 := hid (bx_past XR_1.out (.cells #[.slice none 0 0] 74))
  have Yu_1 := hid (bx_new w0 #[.slice none 0 0] 74)
  have HC_1 : Hid (Below w.heap.size w (w0.alloc (.cells #[.slice none 0 0] 74))) := HB_1.out.alloc HB_1.out.size (.cells #[.slice none 0 0] 74)
  go_wp2
  have Z := bx_past (XR_1.out.put3 (.bool false) (.slice none 0 0) (.slice none 0 0)) (.cells #[.slice none 0 0] 74)
  have z0 := Z.cell 0 _ rfl
  have z1 := Z.cell 1 _ rfl
  have z2 := Z.cell 2 _ rfl
  unfold wput3 at z0 z1 z2
  have BB := below_put3 HB_1.out (Nat.le_refl _) (.bool false) (.slice none 0 0) (.slice none 0 0)
  exact bodyPost_ret (v := .tuple #[.agg #[.bool false, .slice none 0 0, .slice none 0 0], .bool false]) (by simp [results, Tryd.results111, go_sem, z0, z1, z2]) rfl ⟨rfl, BB.alloc BB.size _⟩

set_option maxHeartbeats 2000000 in
set_option maxRecDepth 20000 in
theorem parse4_false (t : ByteArray) (K : Nat) (w : World) (hK : slashAt t.data.toList = K) (hts : t.size ≤ 300) (hKt : K ≤ t.size) (h0 : 0 < t.size) (hm : ((t[0].toNat : Int) == 45) = false) (X : Nat) (hw : Hid (wholeB (t.data.toList.take K) = true)) (hX : Hid (dv (t.data.toList.take K) = X)) (hne : ((K : Int) == (t.size : Int)) = false) (hlt : K < t.size) (hv : Hid (wholeB (t.data.toList.drop (K + 1)) = false)) :
    Calls Tryd.prog 111 #[.string t] w fun e w' => e = .returned (.tuple #[.agg #[.bool false, .slice none 0 0, .slice none 0 0], .bool false]) ∧ Below w.heap.size w w' := by
  have hdt : (t.extract (K + 1) t.size).data.toList = t.data.toList.drop (K + 1) := ext_drop t (K + 1)
  have HDT := hid hdt
  have hds : (t.extract (K + 1) t.size).size ≤ 300 := by rw [ByteArray.size_extract]; omega
  clear hdt
  have XR_0 := hid (bx_new w #[.bool false, .slice none 0 0, .slice none 0 0] 76)
  have HB_0 := hid ((Below.refl _ w).alloc (Nat.le_refl _) (.cells #[.bool false, .slice none 0 0, .slice none 0 0] 76))
  have HK := hid hK
  have HS := hid hts
  clear hK
  have hut : (t.extract 0 K).data.toList = t.data.toList.take K := ext_take t K
  have HUT := hid hut
  clear hut
  have hus : (t.extract 0 K).size ≤ 300 := by rw [ByteArray.size_extract]; omega
  go_enter Tryd.func111, Tryd.ntmps111
  go_wp2_with fail
  refine (slashIn_any t _ (by omega)).mono ?_
  rintro e wz ⟨rfl, rfl⟩
  rw [HK.out]
  have ltR := XR_0.out.lt
  have cR0 := XR_0.out.cell 0 _ rfl
  have zR0 := XR_0.out.frozen 0
  have cR1 := XR_0.out.cell 1 _ rfl
  have zR1 := XR_0.out.frozen 1
  have cR2 := XR_0.out.cell 2 _ rfl
  have zR2 := XR_0.out.frozen 2
  go_wp2_with fail
  refine (parse_yes (t.extract 0 K) _ (by omega) (by rw [HUT.out]; exact hw.out)).mono ?_
  rintro e0 w0 ⟨v0, rfl, ⟨uo, un, uc, rfl, hr0⟩, hb0⟩
  have XR_1 := hid (XR_0.out.keep hb0)
  have HB_1 : Hid (Below w.heap.size w w0) := HB_0.out.trans (hb0.mono HB_0.out.size)
  clear ltR cR0 zR0 cR1 zR1 cR2 zR2
  have ltR := XR_1.out.lt
  have cR0 := XR_1.out.cell 0 _ rfl
  have zR0 := XR_1.out.frozen 0
  have cR1 := XR_1.out.cell 1 _ rfl
  have zR1 := XR_1.out.frozen 1
  have cR2 := XR_1.out.cell 2 _ rfl
  have zR2 := XR_1.out.frozen 2
  rw [HUT.out, hX.out] at hr0
  have Ru_1 := hid hr0
  have lenu : un ≤ 300 := by have h5 := hr0.len; have h6 := limbs_dv hw.out; rw [hX.out] at h6; have h7 : (t.data.toList.take K).length ≤ K := List.length_take_le _ _; omega
  clear hb0 hr0
  have YR_1 := hid (bx_past XR_1.out (.cells #[.slice uo un uc] 74))
  have Yu_1 := hid (bx_new w0 #[.slice uo un uc] 74)
  have Qu_1 := hid (Ru_1.out.alloc (.cells #[.slice uo un uc] 74))
  have HC_1 : Hid (Below w.heap.size w (w0.alloc (.cells #[.slice uo un uc] 74))) := HB_1.out.alloc HB_1.out.size (.cells #[.slice uo un uc] 74)
  go_wp2_with fail
  refine (parse_no (t.extract (K + 1) t.size) _ (by omega) (by rw [HDT.out]; exact hv.out)).mono ?_
  rintro e1 w1 ⟨rfl, hb1⟩
  have XR_2 := hid (YR_1.out.keep hb1)
  have Xu_2 := hid (Yu_1.out.keep hb1)
  have Ru_2 := hid (Qu_1.out.below hb1)
  have HB_2 : Hid (Below w.heap.size w w1) := HC_1.out.trans (hb1.mono HC_1.out.size)
  clear ltR cR0 zR0 cR1 zR1 cR2 zR2
  have ltR := XR_2.out.lt
  have cR0 := XR_2.out.cell 0 _ rfl
  have zR0 := XR_2.out.frozen 0
  have cR1 := XR_2.out.cell 1 _ rfl
  have zR1 := XR_2.out.frozen 1
  have cR2 := XR_2.out.cell 2 _ rfl
  have zR2 := XR_2.out.frozen 2
  have ltu := Xu_2.out.lt
  have cu0 := Xu_2.out.cell 0 _ rfl
  clear hb1
  have YR_2 := hid (bx_past XR_2.out (.cells #[.slice none 0 0] 74))
  have Yu_2 := hid (bx_past Xu_2.out (.cells #[.slice none 0 0] 74))
  have Yy_2 := hid (bx_new w1 #[.slice none 0 0] 74)
  have Qu_2 := hid (Ru_2.out.alloc (.cells #[.slice none 0 0] 74))
  have HC_2 : Hid (Below w.heap.size w (w1.alloc (.cells #[.slice none 0 0] 74))) := HB_2.out.alloc HB_2.out.size (.cells #[.slice none 0 0] 74)
  go_wp2
  have Z := bx_past (XR_2.out.put3 (.bool false) (.slice none 0 0) (.slice none 0 0)) (.cells #[.slice none 0 0] 74)
  have z0 := Z.cell 0 _ rfl
  have z1 := Z.cell 1 _ rfl
  have z2 := Z.cell 2 _ rfl
  unfold wput3 at z0 z1 z2
  have BB := below_put3 HB_2.out (Nat.le_refl _) (.bool false) (.slice none 0 0) (.slice none 0 0)
  exact bodyPost_ret (v := .tuple #[.agg #[.bool false, .slice none 0 0, .slice none 0 0], .bool false]) (by simp [results, Tryd.results111, go_sem, z0, z1, z2]) rfl ⟨rfl, BB.alloc BB.size _⟩

set_option maxHeartbeats 2000000 in
set_option maxRecDepth 20000 in
theorem parse5_false (t : ByteArray) (K : Nat) (w : World) (hK : slashAt t.data.toList = K) (hts : t.size ≤ 300) (hKt : K ≤ t.size) (h0 : 0 < t.size) (hm : ((t[0].toNat : Int) == 45) = false) (X : Nat) (hw : Hid (wholeB (t.data.toList.take K) = true)) (hX : Hid (dv (t.data.toList.take K) = X)) (hne : ((K : Int) == (t.size : Int)) = false) (hlt : K < t.size) (Y : Nat) (hv : Hid (wholeB (t.data.toList.drop (K + 1)) = true)) (hY : Hid (dv (t.data.toList.drop (K + 1)) = Y)) (hl : Hid (lowB X Y = false)) :
    Calls Tryd.prog 111 #[.string t] w fun e w' => e = .returned (.tuple #[.agg #[.bool false, .slice none 0 0, .slice none 0 0], .bool false]) ∧ Below w.heap.size w w' := by
  have hdt : (t.extract (K + 1) t.size).data.toList = t.data.toList.drop (K + 1) := ext_drop t (K + 1)
  have HDT := hid hdt
  have hds : (t.extract (K + 1) t.size).size ≤ 300 := by rw [ByteArray.size_extract]; omega
  clear hdt
  have XR_0 := hid (bx_new w #[.bool false, .slice none 0 0, .slice none 0 0] 76)
  have HB_0 := hid ((Below.refl _ w).alloc (Nat.le_refl _) (.cells #[.bool false, .slice none 0 0, .slice none 0 0] 76))
  have HK := hid hK
  have HS := hid hts
  clear hK
  have hut : (t.extract 0 K).data.toList = t.data.toList.take K := ext_take t K
  have HUT := hid hut
  clear hut
  have hus : (t.extract 0 K).size ≤ 300 := by rw [ByteArray.size_extract]; omega
  go_enter Tryd.func111, Tryd.ntmps111
  go_wp2_with fail
  refine (slashIn_any t _ (by omega)).mono ?_
  rintro e wz ⟨rfl, rfl⟩
  rw [HK.out]
  have ltR := XR_0.out.lt
  have cR0 := XR_0.out.cell 0 _ rfl
  have zR0 := XR_0.out.frozen 0
  have cR1 := XR_0.out.cell 1 _ rfl
  have zR1 := XR_0.out.frozen 1
  have cR2 := XR_0.out.cell 2 _ rfl
  have zR2 := XR_0.out.frozen 2
  go_wp2_with fail
  refine (parse_yes (t.extract 0 K) _ (by omega) (by rw [HUT.out]; exact hw.out)).mono ?_
  rintro e0 w0 ⟨v0, rfl, ⟨uo, un, uc, rfl, hr0⟩, hb0⟩
  have XR_1 := hid (XR_0.out.keep hb0)
  have HB_1 : Hid (Below w.heap.size w w0) := HB_0.out.trans (hb0.mono HB_0.out.size)
  clear ltR cR0 zR0 cR1 zR1 cR2 zR2
  have ltR := XR_1.out.lt
  have cR0 := XR_1.out.cell 0 _ rfl
  have zR0 := XR_1.out.frozen 0
  have cR1 := XR_1.out.cell 1 _ rfl
  have zR1 := XR_1.out.frozen 1
  have cR2 := XR_1.out.cell 2 _ rfl
  have zR2 := XR_1.out.frozen 2
  rw [HUT.out, hX.out] at hr0
  have Ru_1 := hid hr0
  have lenu : un ≤ 300 := by have h5 := hr0.len; have h6 := limbs_dv hw.out; rw [hX.out] at h6; have h7 : (t.data.toList.take K).length ≤ K := List.length_take_le _ _; omega
  clear hb0 hr0
  have YR_1 := hid (bx_past XR_1.out (.cells #[.slice uo un uc] 74))
  have Yu_1 := hid (bx_new w0 #[.slice uo un uc] 74)
  have Qu_1 := hid (Ru_1.out.alloc (.cells #[.slice uo un uc] 74))
  have HC_1 : Hid (Below w.heap.size w (w0.alloc (.cells #[.slice uo un uc] 74))) := HB_1.out.alloc HB_1.out.size (.cells #[.slice uo un uc] 74)
  go_wp2_with fail
  refine (parse_yes (t.extract (K + 1) t.size) _ (by omega) (by rw [HDT.out]; exact hv.out)).mono ?_
  rintro e1 w1 ⟨v1, rfl, ⟨yo, yn, yc, rfl, hr1⟩, hb1⟩
  have XR_2 := hid (YR_1.out.keep hb1)
  have Xu_2 := hid (Yu_1.out.keep hb1)
  have Ru_2 := hid (Qu_1.out.below hb1)
  have HB_2 : Hid (Below w.heap.size w w1) := HC_1.out.trans (hb1.mono HC_1.out.size)
  clear ltR cR0 zR0 cR1 zR1 cR2 zR2
  have ltR := XR_2.out.lt
  have cR0 := XR_2.out.cell 0 _ rfl
  have zR0 := XR_2.out.frozen 0
  have cR1 := XR_2.out.cell 1 _ rfl
  have zR1 := XR_2.out.frozen 1
  have cR2 := XR_2.out.cell 2 _ rfl
  have zR2 := XR_2.out.frozen 2
  have ltu := Xu_2.out.lt
  have cu0 := Xu_2.out.cell 0 _ rfl
  rw [HDT.out, hY.out] at hr1
  have Ry_2 := hid hr1
  have leny : yn ≤ 300 := by have h5 := hr1.len; have h6 := limbs_dv hv.out; rw [hY.out, List.length_drop] at h6; have h7 : t.data.toList.length = t.size := (by simp); omega
  clear hb1 hr1
  have YR_2 := hid (bx_past XR_2.out (.cells #[.slice yo yn yc] 74))
  have Yu_2 := hid (bx_past Xu_2.out (.cells #[.slice yo yn yc] 74))
  have Yy_2 := hid (bx_new w1 #[.slice yo yn yc] 74)
  have Qu_2 := hid (Ru_2.out.alloc (.cells #[.slice yo yn yc] 74))
  have Qy_2 := hid (Ry_2.out.alloc (.cells #[.slice yo yn yc] 74))
  have HC_2 : Hid (Below w.heap.size w (w1.alloc (.cells #[.slice yo yn yc] 74))) := HB_2.out.alloc HB_2.out.size (.cells #[.slice yo yn yc] 74)
  go_wp2_with fail
  refine (areLowest_any uo yo un uc yn yc X Y _ Qu_2.out Qy_2.out (by omega) (by omega)).mono ?_
  rintro e2 w2 ⟨rfl, hb2⟩
  have XR_3 := hid (YR_2.out.keep hb2)
  have Xu_3 := hid (Yu_2.out.keep hb2)
  have Xy_3 := hid (Yy_2.out.keep hb2)
  have Ru_3 := hid (Qu_2.out.below hb2)
  have Ry_3 := hid (Qy_2.out.below hb2)
  have HB_3 : Hid (Below w.heap.size w w2) := HC_2.out.trans (hb2.mono HC_2.out.size)
  clear ltR cR0 zR0 cR1 zR1 cR2 zR2 ltu cu0
  have ltR := XR_3.out.lt
  have cR0 := XR_3.out.cell 0 _ rfl
  have zR0 := XR_3.out.frozen 0
  have cR1 := XR_3.out.cell 1 _ rfl
  have zR1 := XR_3.out.frozen 1
  have cR2 := XR_3.out.cell 2 _ rfl
  have zR2 := XR_3.out.frozen 2
  have ltu := Xu_3.out.lt
  have cu0 := Xu_3.out.cell 0 _ rfl
  have lty := Xy_3.out.lt
  have cy0 := Xy_3.out.cell 0 _ rfl
  rw [hl.out]
  clear hb2
  go_wp2
  have Z := XR_3.out.put3 (.bool false) (.slice none 0 0) (.slice none 0 0)
  have z0 := Z.cell 0 _ rfl
  have z1 := Z.cell 1 _ rfl
  have z2 := Z.cell 2 _ rfl
  unfold wput3 at z0 z1 z2
  have BB := below_put3 HB_3.out (Nat.le_refl _) (.bool false) (.slice none 0 0) (.slice none 0 0)
  exact bodyPost_ret (v := .tuple #[.agg #[.bool false, .slice none 0 0, .slice none 0 0], .bool false]) (by simp [results, Tryd.results111, go_sem, z0, z1, z2]) rfl ⟨rfl, BB⟩

set_option maxHeartbeats 2000000 in
set_option maxRecDepth 20000 in
theorem parse6_false (t : ByteArray) (K : Nat) (w : World) (hK : slashAt t.data.toList = K) (hts : t.size ≤ 300) (hKt : K ≤ t.size) (h0 : 0 < t.size) (hm : ((t[0].toNat : Int) == 45) = false) (X : Nat) (hw : Hid (wholeB (t.data.toList.take K) = true)) (hX : Hid (dv (t.data.toList.take K) = X)) (hne : ((K : Int) == (t.size : Int)) = false) (hlt : K < t.size) (Y : Nat) (hv : Hid (wholeB (t.data.toList.drop (K + 1)) = true)) (hY : Hid (dv (t.data.toList.drop (K + 1)) = Y)) (hl : Hid (lowB X Y = true)) (q : Rat) (hq : Hid (q.num.natAbs = X ∧ q.den = Y ∧ negB q = false)) :
    Calls Tryd.prog 111 #[.string t] w fun e w' => ∃ v, e = .returned (.tuple #[v, .bool true]) ∧ Frac w' v q ∧ Below w.heap.size w w' := by
  have hdt : (t.extract (K + 1) t.size).data.toList = t.data.toList.drop (K + 1) := ext_drop t (K + 1)
  have HDT := hid hdt
  have hds : (t.extract (K + 1) t.size).size ≤ 300 := by rw [ByteArray.size_extract]; omega
  clear hdt
  have XR_0 := hid (bx_new w #[.bool false, .slice none 0 0, .slice none 0 0] 76)
  have HB_0 := hid ((Below.refl _ w).alloc (Nat.le_refl _) (.cells #[.bool false, .slice none 0 0, .slice none 0 0] 76))
  have HK := hid hK
  have HS := hid hts
  clear hK
  have hut : (t.extract 0 K).data.toList = t.data.toList.take K := ext_take t K
  have HUT := hid hut
  clear hut
  have hus : (t.extract 0 K).size ≤ 300 := by rw [ByteArray.size_extract]; omega
  go_enter Tryd.func111, Tryd.ntmps111
  go_wp2_with fail
  refine (slashIn_any t _ (by omega)).mono ?_
  rintro e wz ⟨rfl, rfl⟩
  rw [HK.out]
  have ltR := XR_0.out.lt
  have cR0 := XR_0.out.cell 0 _ rfl
  have zR0 := XR_0.out.frozen 0
  have cR1 := XR_0.out.cell 1 _ rfl
  have zR1 := XR_0.out.frozen 1
  have cR2 := XR_0.out.cell 2 _ rfl
  have zR2 := XR_0.out.frozen 2
  go_wp2_with fail
  refine (parse_yes (t.extract 0 K) _ (by omega) (by rw [HUT.out]; exact hw.out)).mono ?_
  rintro e0 w0 ⟨v0, rfl, ⟨uo, un, uc, rfl, hr0⟩, hb0⟩
  have XR_1 := hid (XR_0.out.keep hb0)
  have HB_1 : Hid (Below w.heap.size w w0) := HB_0.out.trans (hb0.mono HB_0.out.size)
  clear ltR cR0 zR0 cR1 zR1 cR2 zR2
  have ltR := XR_1.out.lt
  have cR0 := XR_1.out.cell 0 _ rfl
  have zR0 := XR_1.out.frozen 0
  have cR1 := XR_1.out.cell 1 _ rfl
  have zR1 := XR_1.out.frozen 1
  have cR2 := XR_1.out.cell 2 _ rfl
  have zR2 := XR_1.out.frozen 2
  rw [HUT.out, hX.out] at hr0
  have Ru_1 := hid hr0
  have lenu : un ≤ 300 := by have h5 := hr0.len; have h6 := limbs_dv hw.out; rw [hX.out] at h6; have h7 : (t.data.toList.take K).length ≤ K := List.length_take_le _ _; omega
  clear hb0 hr0
  have YR_1 := hid (bx_past XR_1.out (.cells #[.slice uo un uc] 74))
  have Yu_1 := hid (bx_new w0 #[.slice uo un uc] 74)
  have Qu_1 := hid (Ru_1.out.alloc (.cells #[.slice uo un uc] 74))
  have HC_1 : Hid (Below w.heap.size w (w0.alloc (.cells #[.slice uo un uc] 74))) := HB_1.out.alloc HB_1.out.size (.cells #[.slice uo un uc] 74)
  go_wp2_with fail
  refine (parse_yes (t.extract (K + 1) t.size) _ (by omega) (by rw [HDT.out]; exact hv.out)).mono ?_
  rintro e1 w1 ⟨v1, rfl, ⟨yo, yn, yc, rfl, hr1⟩, hb1⟩
  have XR_2 := hid (YR_1.out.keep hb1)
  have Xu_2 := hid (Yu_1.out.keep hb1)
  have Ru_2 := hid (Qu_1.out.below hb1)
  have HB_2 : Hid (Below w.heap.size w w1) := HC_1.out.trans (hb1.mono HC_1.out.size)
  clear ltR cR0 zR0 cR1 zR1 cR2 zR2
  have ltR := XR_2.out.lt
  have cR0 := XR_2.out.cell 0 _ rfl
  have zR0 := XR_2.out.frozen 0
  have cR1 := XR_2.out.cell 1 _ rfl
  have zR1 := XR_2.out.frozen 1
  have cR2 := XR_2.out.cell 2 _ rfl
  have zR2 := XR_2.out.frozen 2
  have ltu := Xu_2.out.lt
  have cu0 := Xu_2.out.cell 0 _ rfl
  rw [HDT.out, hY.out] at hr1
  have Ry_2 := hid hr1
  have leny : yn ≤ 300 := by have h5 := hr1.len; have h6 := limbs_dv hv.out; rw [hY.out, List.length_drop] at h6; have h7 : t.data.toList.length = t.size := (by simp); omega
  clear hb1 hr1
  have YR_2 := hid (bx_past XR_2.out (.cells #[.slice yo yn yc] 74))
  have Yu_2 := hid (bx_past Xu_2.out (.cells #[.slice yo yn yc] 74))
  have Yy_2 := hid (bx_new w1 #[.slice yo yn yc] 74)
  have Qu_2 := hid (Ru_2.out.alloc (.cells #[.slice yo yn yc] 74))
  have Qy_2 := hid (Ry_2.out.alloc (.cells #[.slice yo yn yc] 74))
  have HC_2 : Hid (Below w.heap.size w (w1.alloc (.cells #[.slice yo yn yc] 74))) := HB_2.out.alloc HB_2.out.size (.cells #[.slice yo yn yc] 74)
  go_wp2_with fail
  refine (areLowest_any uo yo un uc yn yc X Y _ Qu_2.out Qy_2.out (by omega) (by omega)).mono ?_
  rintro e2 w2 ⟨rfl, hb2⟩
  have XR_3 := hid (YR_2.out.keep hb2)
  have Xu_3 := hid (Yu_2.out.keep hb2)
  have Xy_3 := hid (Yy_2.out.keep hb2)
  have Ru_3 := hid (Qu_2.out.below hb2)
  have Ry_3 := hid (Qy_2.out.below hb2)
  have HB_3 : Hid (Below w.heap.size w w2) := HC_2.out.trans (hb2.mono HC_2.out.size)
  clear ltR cR0 zR0 cR1 zR1 cR2 zR2 ltu cu0
  have ltR := XR_3.out.lt
  have cR0 := XR_3.out.cell 0 _ rfl
  have zR0 := XR_3.out.frozen 0
  have cR1 := XR_3.out.cell 1 _ rfl
  have zR1 := XR_3.out.frozen 1
  have cR2 := XR_3.out.cell 2 _ rfl
  have zR2 := XR_3.out.frozen 2
  have ltu := Xu_3.out.lt
  have cu0 := Xu_3.out.cell 0 _ rfl
  have lty := Xy_3.out.lt
  have cy0 := Xy_3.out.cell 0 _ rfl
  rw [hl.out]
  clear hb2
  go_wp2
  have Z := XR_3.out.put3 (.bool false) (.slice uo un uc) (.slice yo yn yc)
  have z0 := Z.cell 0 _ rfl
  have z1 := Z.cell 1 _ rfl
  have z2 := Z.cell 2 _ rfl
  unfold wput3 at z0 z1 z2
  refine bodyPost_ret (v := .tuple #[.agg #[.bool false, .slice uo un uc, .slice yo yn yc], .bool true]) (by simp [results, Tryd.results111, go_sem, z0, z1, z2]) rfl ⟨_, rfl, ⟨uo, un, uc, yo, yn, yc, ?_, ?_, ?_⟩, below_put3 HB_3.out (Nat.le_refl _) _ _ _⟩
  · rw [hq.out.2.2]
  · rw [hq.out.1]; exact Ru_3.out.put3 XR_3.out (by decide) _ _ _
  · rw [hq.out.2.1]; exact Ry_3.out.put3 XR_3.out (by decide) _ _ _

end Go.Proofs.YtddbflggcblfcaaDoor
