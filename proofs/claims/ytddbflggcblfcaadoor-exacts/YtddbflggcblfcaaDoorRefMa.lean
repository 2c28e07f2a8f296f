/- portionref.Read, of texts with a minus: no fraction, 0, a whole number. (Laid by mkrefr.py.) -/
import Derived.Test.YtddbflggcblfcaaDoorRefL
namespace Go.Proofs.YtddbflggcblfcaaDoor
set_option linter.unusedSimpArgs false
set_option linter.unusedVariables false
open Go.RowKit Por

set_option maxHeartbeats 2000000 in
set_option maxRecDepth 20000 in
theorem pread1_true (s t : ByteArray) (K : Nat) (w : World) (ht : t = s.extract 1 s.size) (hK : slashAt t.data.toList = K) (hts : t.size ≤ 300) (hKt : K ≤ t.size) (hs : s.size ≤ 300) (h0 : 0 < s.size) (hm : ((s[0].toNat : Int) == 45) = true) (heq : ((K : Int) == (t.size : Int)) = true) (hnl : ¬ K < t.size) (hw : Hid (wholeB (t.data.toList.take K) = false)) :
    Calls Tryd.prog 93 #[.string s] w fun e w' => ∃ nb na nn nc oa on oc, e = .returned (.tuple #[.agg #[.bool nb, .slice na nn nc, .slice oa on oc], .bool false]) ∧ Below w.heap.size w w' := by
  obtain ⟨c1, c2, c5⟩ := boxes2 w #[.bool false, .slice none 0 0, .slice none 0 0] #[.bool true, .slice none 0 0, .slice none 0 0] 82 82
  have XR_0 := hid c1
  have XX_0 := hid c2
  have HB_0 := hid c5
  clear c1 c2 c5
  have hne : ((s.size : Int) == 0) = false := by rw [beq_eq_false_iff_ne]; omega
  have hs3 : (s.size : Int) ≤ 300 := by omega
  have HT := hid ht
  clear ht
  have HK := hid hK
  clear hK
  have hut : (t.extract 0 K).data.toList = t.data.toList.take K := ext_take t K
  have HUT := hid hut
  clear hut
  have hus : (t.extract 0 K).size ≤ 300 := by rw [ByteArray.size_extract]; omega
  go_enter Tryd.func93, Tryd.ntmps93
  go_wp2_with fail
  rw [← HT.out]
  refine (pslash_any t _ (by omega)).mono ?_
  rintro e wz ⟨rfl, rfl⟩
  rw [HK.out]
  obtain ⟨V0, hV⟩ : ∃ V0, V0 = (w.alloc (.cells #[.bool false, .slice none 0 0, .slice none 0 0] 82)).alloc (.cells #[.bool true, .slice none 0 0, .slice none 0 0] 82) := ⟨_, rfl⟩
  rw [← hV] at XR_0 XX_0 HB_0 ⊢
  clear hV
  have ltR := XR_0.out.lt
  have cR0 := XR_0.out.cell 0 _ rfl
  have zR0 := XR_0.out.frozen 0
  have cR1 := XR_0.out.cell 1 _ rfl
  have zR1 := XR_0.out.frozen 1
  have cR2 := XR_0.out.cell 2 _ rfl
  have zR2 := XR_0.out.frozen 2
  have ltX := XX_0.out.lt
  have cX0 := XX_0.out.cell 0 _ rfl
  have zX0 := XX_0.out.frozen 0
  have cX1 := XX_0.out.cell 1 _ rfl
  have zX1 := XX_0.out.frozen 1
  have cX2 := XX_0.out.cell 2 _ rfl
  have zX2 := XX_0.out.frozen 2
  go_wp2_with fail
  refine (pdigits_any (t.extract 0 K) _ (by omega)).mono ?_
  rintro e1 wz1 ⟨rfl, rfl⟩
  rw [HUT.out, hw.out]
  go_wp2_with fail
  refine (pdigits_any ⟨#[49]⟩ _ (by decide)).mono ?_
  rintro e2 wz2 ⟨rfl, rfl⟩
  rw [bytes49, whole49]
  go_wp2
  have P0 := XR_0.out
  have Z := (P0.put3 (.bool true) (.slice none 0 0) (.slice none 0 0))
  have z0 := Z.cell 0 _ rfl
  have z1 := Z.cell 1 _ rfl
  have z2 := Z.cell 2 _ rfl
  unfold wput3 at z0 z1 z2
  have BB := (below_put3 HB_0.out (Nat.le_refl _) (.bool true) (.slice none 0 0) (.slice none 0 0))
  exact bodyPost_ret (v := .tuple #[.agg #[.bool true, .slice none 0 0, .slice none 0 0], .bool false]) (by simp [results, Tryd.results93, go_sem, z0, z1, z2]) rfl ⟨_, _, _, _, _, _, _, rfl, BB⟩

set_option maxHeartbeats 2000000 in
set_option maxRecDepth 20000 in
theorem pread2_true (s t : ByteArray) (K : Nat) (w : World) (ht : t = s.extract 1 s.size) (hK : slashAt t.data.toList = K) (hts : t.size ≤ 300) (hKt : K ≤ t.size) (hs : s.size ≤ 300) (h0 : 0 < s.size) (hm : ((s[0].toNat : Int) == 45) = true) (hne2 : ((K : Int) == (t.size : Int)) = false) (hlt : K < t.size) (vb : Bool) (hw : Hid (wholeB (t.data.toList.take K) = false)) (hv : Hid (wholeB (t.data.toList.drop (K + 1)) = vb)) :
    Calls Tryd.prog 93 #[.string s] w fun e w' => ∃ nb na nn nc oa on oc, e = .returned (.tuple #[.agg #[.bool nb, .slice na nn nc, .slice oa on oc], .bool false]) ∧ Below w.heap.size w w' := by
  obtain ⟨c1, c2, c5⟩ := boxes2 w #[.bool false, .slice none 0 0, .slice none 0 0] #[.bool true, .slice none 0 0, .slice none 0 0] 82 82
  have XR_0 := hid c1
  have XX_0 := hid c2
  have HB_0 := hid c5
  clear c1 c2 c5
  have hne : ((s.size : Int) == 0) = false := by rw [beq_eq_false_iff_ne]; omega
  have hs3 : (s.size : Int) ≤ 300 := by omega
  have HT := hid ht
  clear ht
  have HK := hid hK
  clear hK
  have hut : (t.extract 0 K).data.toList = t.data.toList.take K := ext_take t K
  have HUT := hid hut
  clear hut
  have hus : (t.extract 0 K).size ≤ 300 := by rw [ByteArray.size_extract]; omega
  have hdt : (t.extract (K + 1) t.size).data.toList = t.data.toList.drop (K + 1) := ext_drop t (K + 1)
  have HDT := hid hdt
  clear hdt
  have hds : (t.extract (K + 1) t.size).size ≤ 300 := by rw [ByteArray.size_extract]; omega
  go_enter Tryd.func93, Tryd.ntmps93
  go_wp2_with fail
  rw [← HT.out]
  refine (pslash_any t _ (by omega)).mono ?_
  rintro e wz ⟨rfl, rfl⟩
  rw [HK.out]
  obtain ⟨V0, hV⟩ : ∃ V0, V0 = (w.alloc (.cells #[.bool false, .slice none 0 0, .slice none 0 0] 82)).alloc (.cells #[.bool true, .slice none 0 0, .slice none 0 0] 82) := ⟨_, rfl⟩
  rw [← hV] at XR_0 XX_0 HB_0 ⊢
  clear hV
  have ltR := XR_0.out.lt
  have cR0 := XR_0.out.cell 0 _ rfl
  have zR0 := XR_0.out.frozen 0
  have cR1 := XR_0.out.cell 1 _ rfl
  have zR1 := XR_0.out.frozen 1
  have cR2 := XR_0.out.cell 2 _ rfl
  have zR2 := XR_0.out.frozen 2
  have ltX := XX_0.out.lt
  have cX0 := XX_0.out.cell 0 _ rfl
  have zX0 := XX_0.out.frozen 0
  have cX1 := XX_0.out.cell 1 _ rfl
  have zX1 := XX_0.out.frozen 1
  have cX2 := XX_0.out.cell 2 _ rfl
  have zX2 := XX_0.out.frozen 2
  go_wp2_with fail
  refine (pdigits_any (t.extract 0 K) _ (by omega)).mono ?_
  rintro e1 wz1 ⟨rfl, rfl⟩
  rw [HUT.out, hw.out]
  go_wp2_with fail
  refine (pdigits_any (t.extract (K + 1) t.size) _ (by omega)).mono ?_
  rintro e2 wz2 ⟨rfl, rfl⟩
  rw [HDT.out, hv.out]
  go_wp2
  have P0 := XR_0.out
  have Z := (P0.put3 (.bool true) (.slice none 0 0) (.slice none 0 0))
  have z0 := Z.cell 0 _ rfl
  have z1 := Z.cell 1 _ rfl
  have z2 := Z.cell 2 _ rfl
  unfold wput3 at z0 z1 z2
  have BB := (below_put3 HB_0.out (Nat.le_refl _) (.bool true) (.slice none 0 0) (.slice none 0 0))
  exact bodyPost_ret (v := .tuple #[.agg #[.bool true, .slice none 0 0, .slice none 0 0], .bool false]) (by simp [results, Tryd.results93, go_sem, z0, z1, z2]) rfl ⟨_, _, _, _, _, _, _, rfl, BB⟩

set_option maxHeartbeats 2000000 in
set_option maxRecDepth 20000 in
theorem pread3_true (s t : ByteArray) (K : Nat) (w : World) (ht : t = s.extract 1 s.size) (hK : slashAt t.data.toList = K) (hts : t.size ≤ 300) (hKt : K ≤ t.size) (hs : s.size ≤ 300) (h0 : 0 < s.size) (hm : ((s[0].toNat : Int) == 45) = true) (hne2 : ((K : Int) == (t.size : Int)) = false) (hlt : K < t.size) (hw : Hid (wholeB (t.data.toList.take K) = true)) (hv : Hid (wholeB (t.data.toList.drop (K + 1)) = false)) :
    Calls Tryd.prog 93 #[.string s] w fun e w' => ∃ nb na nn nc oa on oc, e = .returned (.tuple #[.agg #[.bool nb, .slice na nn nc, .slice oa on oc], .bool false]) ∧ Below w.heap.size w w' := by
  obtain ⟨c1, c2, c5⟩ := boxes2 w #[.bool false, .slice none 0 0, .slice none 0 0] #[.bool true, .slice none 0 0, .slice none 0 0] 82 82
  have XR_0 := hid c1
  have XX_0 := hid c2
  have HB_0 := hid c5
  clear c1 c2 c5
  have hne : ((s.size : Int) == 0) = false := by rw [beq_eq_false_iff_ne]; omega
  have hs3 : (s.size : Int) ≤ 300 := by omega
  have HT := hid ht
  clear ht
  have HK := hid hK
  clear hK
  have hut : (t.extract 0 K).data.toList = t.data.toList.take K := ext_take t K
  have HUT := hid hut
  clear hut
  have hus : (t.extract 0 K).size ≤ 300 := by rw [ByteArray.size_extract]; omega
  have hdt : (t.extract (K + 1) t.size).data.toList = t.data.toList.drop (K + 1) := ext_drop t (K + 1)
  have HDT := hid hdt
  clear hdt
  have hds : (t.extract (K + 1) t.size).size ≤ 300 := by rw [ByteArray.size_extract]; omega
  go_enter Tryd.func93, Tryd.ntmps93
  go_wp2_with fail
  rw [← HT.out]
  refine (pslash_any t _ (by omega)).mono ?_
  rintro e wz ⟨rfl, rfl⟩
  rw [HK.out]
  obtain ⟨V0, hV⟩ : ∃ V0, V0 = (w.alloc (.cells #[.bool false, .slice none 0 0, .slice none 0 0] 82)).alloc (.cells #[.bool true, .slice none 0 0, .slice none 0 0] 82) := ⟨_, rfl⟩
  rw [← hV] at XR_0 XX_0 HB_0 ⊢
  clear hV
  have ltR := XR_0.out.lt
  have cR0 := XR_0.out.cell 0 _ rfl
  have zR0 := XR_0.out.frozen 0
  have cR1 := XR_0.out.cell 1 _ rfl
  have zR1 := XR_0.out.frozen 1
  have cR2 := XR_0.out.cell 2 _ rfl
  have zR2 := XR_0.out.frozen 2
  have ltX := XX_0.out.lt
  have cX0 := XX_0.out.cell 0 _ rfl
  have zX0 := XX_0.out.frozen 0
  have cX1 := XX_0.out.cell 1 _ rfl
  have zX1 := XX_0.out.frozen 1
  have cX2 := XX_0.out.cell 2 _ rfl
  have zX2 := XX_0.out.frozen 2
  go_wp2_with fail
  refine (pdigits_any (t.extract 0 K) _ (by omega)).mono ?_
  rintro e1 wz1 ⟨rfl, rfl⟩
  rw [HUT.out, hw.out]
  go_wp2_with fail
  refine (pdigits_any (t.extract (K + 1) t.size) _ (by omega)).mono ?_
  rintro e2 wz2 ⟨rfl, rfl⟩
  rw [HDT.out, hv.out]
  go_wp2
  have P0 := XR_0.out
  have Z := (P0.put3 (.bool true) (.slice none 0 0) (.slice none 0 0))
  have z0 := Z.cell 0 _ rfl
  have z1 := Z.cell 1 _ rfl
  have z2 := Z.cell 2 _ rfl
  unfold wput3 at z0 z1 z2
  have BB := (below_put3 HB_0.out (Nat.le_refl _) (.bool true) (.slice none 0 0) (.slice none 0 0))
  exact bodyPost_ret (v := .tuple #[.agg #[.bool true, .slice none 0 0, .slice none 0 0], .bool false]) (by simp [results, Tryd.results93, go_sem, z0, z1, z2]) rfl ⟨_, _, _, _, _, _, _, rfl, BB⟩

set_option maxHeartbeats 2000000 in
set_option maxRecDepth 20000 in
theorem pread4_true (s t : ByteArray) (K : Nat) (w : World) (ht : t = s.extract 1 s.size) (hK : slashAt t.data.toList = K) (hts : t.size ≤ 300) (hKt : K ≤ t.size) (hs : s.size ≤ 300) (h0 : 0 < s.size) (hm : ((s[0].toNat : Int) == 45) = true) (heq : ((K : Int) == (t.size : Int)) = true) (hnl : ¬ K < t.size) (hw : Hid (wholeB (t.data.toList.take K) = true)) (X : Nat) (hX : Hid (dv (t.data.toList.take K) = X)) (hX0 : Hid (X = 0)) (h48 : ¬ s.toList = [48]) (h48b : (s.toList == [48]) = false) :
    Calls Tryd.prog 93 #[.string s] w fun e w' => ∃ nb na nn nc oa on oc, e = .returned (.tuple #[.agg #[.bool nb, .slice na nn nc, .slice oa on oc], .bool false]) ∧ Below w.heap.size w w' := by
  obtain ⟨c1, c2, c5⟩ := boxes2 w #[.bool false, .slice none 0 0, .slice none 0 0] #[.bool true, .slice none 0 0, .slice none 0 0] 82 82
  have XR_0 := hid c1
  have XX_0 := hid c2
  have HB_0 := hid c5
  clear c1 c2 c5
  have hne : ((s.size : Int) == 0) = false := by rw [beq_eq_false_iff_ne]; omega
  have hs3 : (s.size : Int) ≤ 300 := by omega
  have HT := hid ht
  clear ht
  have HK := hid hK
  clear hK
  have hut : (t.extract 0 K).data.toList = t.data.toList.take K := ext_take t K
  have HUT := hid hut
  clear hut
  have hus : (t.extract 0 K).size ≤ 300 := by rw [ByteArray.size_extract]; omega
  go_enter Tryd.func93, Tryd.ntmps93
  go_wp2_with fail
  rw [← HT.out]
  refine (pslash_any t _ (by omega)).mono ?_
  rintro e wz ⟨rfl, rfl⟩
  rw [HK.out]
  obtain ⟨V0, hV⟩ : ∃ V0, V0 = (w.alloc (.cells #[.bool false, .slice none 0 0, .slice none 0 0] 82)).alloc (.cells #[.bool true, .slice none 0 0, .slice none 0 0] 82) := ⟨_, rfl⟩
  rw [← hV] at XR_0 XX_0 HB_0 ⊢
  clear hV
  have ltR := XR_0.out.lt
  have cR0 := XR_0.out.cell 0 _ rfl
  have zR0 := XR_0.out.frozen 0
  have cR1 := XR_0.out.cell 1 _ rfl
  have zR1 := XR_0.out.frozen 1
  have cR2 := XR_0.out.cell 2 _ rfl
  have zR2 := XR_0.out.frozen 2
  have ltX := XX_0.out.lt
  have cX0 := XX_0.out.cell 0 _ rfl
  have zX0 := XX_0.out.frozen 0
  have cX1 := XX_0.out.cell 1 _ rfl
  have zX1 := XX_0.out.frozen 1
  have cX2 := XX_0.out.cell 2 _ rfl
  have zX2 := XX_0.out.frozen 2
  go_wp2_with fail
  refine (pdigits_any (t.extract 0 K) _ (by omega)).mono ?_
  rintro e1 wz1 ⟨rfl, rfl⟩
  rw [HUT.out, hw.out]
  go_wp2_with fail
  refine (pdigits_any ⟨#[49]⟩ _ (by decide)).mono ?_
  rintro e2 wz2 ⟨rfl, rfl⟩
  rw [bytes49, whole49]
  go_wp2_with fail
  refine (pheard_any (t.extract 0 K) _ (by omega) (by rw [HUT.out]; exact whole_all hw.out)).mono ?_
  rintro e0 w0 ⟨v0, rfl, ⟨po, pn, pc, rfl, hr0, _⟩, hb0⟩
  have XR_1 := hid (XR_0.out.keep hb0)
  have XX_1 := hid (XX_0.out.keep hb0)
  have HB_1 : Hid (Below w.heap.size w w0) := HB_0.out.trans (hb0.mono HB_0.out.size)
  clear ltR cR0 zR0 cR1 zR1 cR2 zR2 ltX cX0 zX0 cX1 zX1 cX2 zX2
  have ltR := XR_1.out.lt
  have cR0 := XR_1.out.cell 0 _ rfl
  have zR0 := XR_1.out.frozen 0
  have cR1 := XR_1.out.cell 1 _ rfl
  have zR1 := XR_1.out.frozen 1
  have cR2 := XR_1.out.cell 2 _ rfl
  have zR2 := XR_1.out.frozen 2
  have ltX := XX_1.out.lt
  have cX0 := XX_1.out.cell 0 _ rfl
  have zX0 := XX_1.out.frozen 0
  have cX1 := XX_1.out.cell 1 _ rfl
  have zX1 := XX_1.out.frozen 1
  have cX2 := XX_1.out.cell 2 _ rfl
  have zX2 := XX_1.out.frozen 2
  rw [HUT.out, hX.out] at hr0
  have Rp_1 := hid hr0
  have lenp := hr0.len
  have bdp : pn ≤ 300 := by have h6 := limbs_dv hw.out; rw [hX.out] at h6; have h7 : (t.data.toList.take K).length ≤ K := List.length_take_le _ _; omega
  clear hb0 hr0
  go_wp2_with fail
  obtain ⟨V1, hV⟩ : ∃ V1, V1 = w0.setCell ⟨w.heap.size + 1, 1, none⟩ (.slice po pn pc) := ⟨_, rfl⟩
  rw [← hV]
  have VR_V1 := hid (XR_1.out.other ⟨w.heap.size + 1, 1, none⟩ (.slice po pn pc) (by show w.heap.size + 1 ≠ _; omega))
  have VX_V1 := hid (XX_1.out.set1 (.slice po pn pc))
  have Up_V1 := hid (Rp_1.out.other (w.heap.size + 1) 1 (.slice po pn pc) XX_1.out (by decide))
  have VBel_V1 := hid (HB_1.out.setCell (p := ⟨w.heap.size + 1, 1, none⟩) (by show w.heap.size ≤ w.heap.size + 1; omega) (.slice po pn pc))
  rw [← hV] at VR_V1 VX_V1 Up_V1 VBel_V1
  clear hV
  refine (pheard_any ⟨#[49]⟩ _ (by decide) (by rw [bytes49]; exact whole_all whole49)).mono ?_
  rintro e1 w1 ⟨v1, rfl, ⟨qo, qn, qc, rfl, hr1, _⟩, hb1⟩
  have XR_2 := hid (VR_V1.out.keep hb1)
  have XX_2 := hid (VX_V1.out.keep hb1)
  have Rp_2 := hid (Up_V1.out.below hb1)
  have HB_2 : Hid (Below w.heap.size w w1) := VBel_V1.out.trans (hb1.mono VBel_V1.out.size)
  clear ltR cR0 zR0 cR1 zR1 cR2 zR2 ltX cX0 zX0 cX1 zX1 cX2 zX2
  have ltR := XR_2.out.lt
  have cR0 := XR_2.out.cell 0 _ rfl
  have zR0 := XR_2.out.frozen 0
  have cR1 := XR_2.out.cell 1 _ rfl
  have zR1 := XR_2.out.frozen 1
  have cR2 := XR_2.out.cell 2 _ rfl
  have zR2 := XR_2.out.frozen 2
  have ltX := XX_2.out.lt
  have cX0 := XX_2.out.cell 0 _ rfl
  have zX0 := XX_2.out.frozen 0
  have cX1 := XX_2.out.cell 1 _ rfl
  have zX1 := XX_2.out.frozen 1
  have cX2 := XX_2.out.cell 2 _ rfl
  have zX2 := XX_2.out.frozen 2
  rw [bytes49, dv49] at hr1
  have Rq_2 := hid hr1
  clear hb1 hr1
  have hpn : pn = 0 := by rw [← lenp, hX0.out]; rfl
  subst hpn
  go_wp2
  have P0 := XR_2.out.other ⟨w.heap.size + 1, 2, none⟩ (.slice qo qn qc) (by show w.heap.size + 1 ≠ _; omega)
  have Z := (P0.put3 (.bool true) (.slice po 0 pc) (.slice qo qn qc))
  have z0 := Z.cell 0 _ rfl
  have z1 := Z.cell 1 _ rfl
  have z2 := Z.cell 2 _ rfl
  unfold wput3 at z0 z1 z2
  have BB := (below_put3 (HB_2.out.setCell (p := ⟨w.heap.size + 1, 2, none⟩) (by show w.heap.size ≤ w.heap.size + 1; omega) (.slice qo qn qc)) (Nat.le_refl _) (.bool true) (.slice po 0 pc) (.slice qo qn qc))
  exact bodyPost_ret (v := .tuple #[.agg #[.bool true, .slice po 0 pc, .slice qo qn qc], .bool false]) (by simp [results, Tryd.results93, go_sem, z0, z1, z2]) rfl ⟨_, _, _, _, _, _, _, rfl, BB⟩

set_option maxHeartbeats 2000000 in
set_option maxRecDepth 20000 in
theorem pread5_true (s t : ByteArray) (K : Nat) (w : World) (ht : t = s.extract 1 s.size) (hK : slashAt t.data.toList = K) (hts : t.size ≤ 300) (hKt : K ≤ t.size) (hs : s.size ≤ 300) (h0 : 0 < s.size) (hm : ((s[0].toNat : Int) == 45) = true) (hne2 : ((K : Int) == (t.size : Int)) = false) (hlt : K < t.size) (hw : Hid (wholeB (t.data.toList.take K) = true)) (X : Nat) (hX : Hid (dv (t.data.toList.take K) = X)) (hv : Hid (wholeB (t.data.toList.drop (K + 1)) = true)) (Y : Nat) (hY : Hid (dv (t.data.toList.drop (K + 1)) = Y)) (hX0 : Hid (X = 0)) (h48 : ¬ s.toList = [48]) (h48b : (s.toList == [48]) = false) :
    Calls Tryd.prog 93 #[.string s] w fun e w' => ∃ nb na nn nc oa on oc, e = .returned (.tuple #[.agg #[.bool nb, .slice na nn nc, .slice oa on oc], .bool false]) ∧ Below w.heap.size w w' := by
  obtain ⟨c1, c2, c5⟩ := boxes2 w #[.bool false, .slice none 0 0, .slice none 0 0] #[.bool true, .slice none 0 0, .slice none 0 0] 82 82
  have XR_0 := hid c1
  have XX_0 := hid c2
  have HB_0 := hid c5
  clear c1 c2 c5
  have hne : ((s.size : Int) == 0) = false := by rw [beq_eq_false_iff_ne]; omega
  have hs3 : (s.size : Int) ≤ 300 := by omega
  have HT := hid ht
  clear ht
  have HK := hid hK
  clear hK
  have hut : (t.extract 0 K).data.toList = t.data.toList.take K := ext_take t K
  have HUT := hid hut
  clear hut
  have hus : (t.extract 0 K).size ≤ 300 := by rw [ByteArray.size_extract]; omega
  have hdt : (t.extract (K + 1) t.size).data.toList = t.data.toList.drop (K + 1) := ext_drop t (K + 1)
  have HDT := hid hdt
  clear hdt
  have hds : (t.extract (K + 1) t.size).size ≤ 300 := by rw [ByteArray.size_extract]; omega
  go_enter Tryd.func93, Tryd.ntmps93
  go_wp2_with fail
  rw [← HT.out]
  refine (pslash_any t _ (by omega)).mono ?_
  rintro e wz ⟨rfl, rfl⟩
  rw [HK.out]
  obtain ⟨V0, hV⟩ : ∃ V0, V0 = (w.alloc (.cells #[.bool false, .slice none 0 0, .slice none 0 0] 82)).alloc (.cells #[.bool true, .slice none 0 0, .slice none 0 0] 82) := ⟨_, rfl⟩
  rw [← hV] at XR_0 XX_0 HB_0 ⊢
  clear hV
  have ltR := XR_0.out.lt
  have cR0 := XR_0.out.cell 0 _ rfl
  have zR0 := XR_0.out.frozen 0
  have cR1 := XR_0.out.cell 1 _ rfl
  have zR1 := XR_0.out.frozen 1
  have cR2 := XR_0.out.cell 2 _ rfl
  have zR2 := XR_0.out.frozen 2
  have ltX := XX_0.out.lt
  have cX0 := XX_0.out.cell 0 _ rfl
  have zX0 := XX_0.out.frozen 0
  have cX1 := XX_0.out.cell 1 _ rfl
  have zX1 := XX_0.out.frozen 1
  have cX2 := XX_0.out.cell 2 _ rfl
  have zX2 := XX_0.out.frozen 2
  go_wp2_with fail
  refine (pdigits_any (t.extract 0 K) _ (by omega)).mono ?_
  rintro e1 wz1 ⟨rfl, rfl⟩
  rw [HUT.out, hw.out]
  go_wp2_with fail
  refine (pdigits_any (t.extract (K + 1) t.size) _ (by omega)).mono ?_
  rintro e2 wz2 ⟨rfl, rfl⟩
  rw [HDT.out, hv.out]
  go_wp2_with fail
  refine (pheard_any (t.extract 0 K) _ (by omega) (by rw [HUT.out]; exact whole_all hw.out)).mono ?_
  rintro e0 w0 ⟨v0, rfl, ⟨po, pn, pc, rfl, hr0, _⟩, hb0⟩
  have XR_1 := hid (XR_0.out.keep hb0)
  have XX_1 := hid (XX_0.out.keep hb0)
  have HB_1 : Hid (Below w.heap.size w w0) := HB_0.out.trans (hb0.mono HB_0.out.size)
  clear ltR cR0 zR0 cR1 zR1 cR2 zR2 ltX cX0 zX0 cX1 zX1 cX2 zX2
  have ltR := XR_1.out.lt
  have cR0 := XR_1.out.cell 0 _ rfl
  have zR0 := XR_1.out.frozen 0
  have cR1 := XR_1.out.cell 1 _ rfl
  have zR1 := XR_1.out.frozen 1
  have cR2 := XR_1.out.cell 2 _ rfl
  have zR2 := XR_1.out.frozen 2
  have ltX := XX_1.out.lt
  have cX0 := XX_1.out.cell 0 _ rfl
  have zX0 := XX_1.out.frozen 0
  have cX1 := XX_1.out.cell 1 _ rfl
  have zX1 := XX_1.out.frozen 1
  have cX2 := XX_1.out.cell 2 _ rfl
  have zX2 := XX_1.out.frozen 2
  rw [HUT.out, hX.out] at hr0
  have Rp_1 := hid hr0
  have lenp := hr0.len
  have bdp : pn ≤ 300 := by have h6 := limbs_dv hw.out; rw [hX.out] at h6; have h7 : (t.data.toList.take K).length ≤ K := List.length_take_le _ _; omega
  clear hb0 hr0
  go_wp2_with fail
  obtain ⟨V1, hV⟩ : ∃ V1, V1 = w0.setCell ⟨w.heap.size + 1, 1, none⟩ (.slice po pn pc) := ⟨_, rfl⟩
  rw [← hV]
  have VR_V1 := hid (XR_1.out.other ⟨w.heap.size + 1, 1, none⟩ (.slice po pn pc) (by show w.heap.size + 1 ≠ _; omega))
  have VX_V1 := hid (XX_1.out.set1 (.slice po pn pc))
  have Up_V1 := hid (Rp_1.out.other (w.heap.size + 1) 1 (.slice po pn pc) XX_1.out (by decide))
  have VBel_V1 := hid (HB_1.out.setCell (p := ⟨w.heap.size + 1, 1, none⟩) (by show w.heap.size ≤ w.heap.size + 1; omega) (.slice po pn pc))
  rw [← hV] at VR_V1 VX_V1 Up_V1 VBel_V1
  clear hV
  refine (pheard_any (t.extract (K + 1) t.size) _ (by omega) (by rw [HDT.out]; exact whole_all hv.out)).mono ?_
  rintro e1 w1 ⟨v1, rfl, ⟨qo, qn, qc, rfl, hr1, _⟩, hb1⟩
  have XR_2 := hid (VR_V1.out.keep hb1)
  have XX_2 := hid (VX_V1.out.keep hb1)
  have Rp_2 := hid (Up_V1.out.below hb1)
  have HB_2 : Hid (Below w.heap.size w w1) := VBel_V1.out.trans (hb1.mono VBel_V1.out.size)
  clear ltR cR0 zR0 cR1 zR1 cR2 zR2 ltX cX0 zX0 cX1 zX1 cX2 zX2
  have ltR := XR_2.out.lt
  have cR0 := XR_2.out.cell 0 _ rfl
  have zR0 := XR_2.out.frozen 0
  have cR1 := XR_2.out.cell 1 _ rfl
  have zR1 := XR_2.out.frozen 1
  have cR2 := XR_2.out.cell 2 _ rfl
  have zR2 := XR_2.out.frozen 2
  have ltX := XX_2.out.lt
  have cX0 := XX_2.out.cell 0 _ rfl
  have zX0 := XX_2.out.frozen 0
  have cX1 := XX_2.out.cell 1 _ rfl
  have zX1 := XX_2.out.frozen 1
  have cX2 := XX_2.out.cell 2 _ rfl
  have zX2 := XX_2.out.frozen 2
  rw [HDT.out, hY.out] at hr1
  have lenq := hr1.len
  have bdq : qn ≤ 300 := by have h6 := limbs_dv hv.out; rw [hY.out, List.length_drop] at h6; have h7 : t.data.toList.length = t.size := (by simp); omega
  have Rq_2 := hid hr1
  clear hb1 hr1
  have hpn : pn = 0 := by rw [← lenp, hX0.out]; rfl
  subst hpn
  go_wp2
  have P0 := XR_2.out.other ⟨w.heap.size + 1, 2, none⟩ (.slice qo qn qc) (by show w.heap.size + 1 ≠ _; omega)
  have Z := (P0.put3 (.bool true) (.slice po 0 pc) (.slice qo qn qc))
  have z0 := Z.cell 0 _ rfl
  have z1 := Z.cell 1 _ rfl
  have z2 := Z.cell 2 _ rfl
  unfold wput3 at z0 z1 z2
  have BB := (below_put3 (HB_2.out.setCell (p := ⟨w.heap.size + 1, 2, none⟩) (by show w.heap.size ≤ w.heap.size + 1; omega) (.slice qo qn qc)) (Nat.le_refl _) (.bool true) (.slice po 0 pc) (.slice qo qn qc))
  exact bodyPost_ret (v := .tuple #[.agg #[.bool true, .slice po 0 pc, .slice qo qn qc], .bool false]) (by simp [results, Tryd.results93, go_sem, z0, z1, z2]) rfl ⟨_, _, _, _, _, _, _, rfl, BB⟩

set_option maxHeartbeats 2000000 in
set_option maxRecDepth 20000 in
theorem pread7_true (s t : ByteArray) (K : Nat) (w : World) (ht : t = s.extract 1 s.size) (hK : slashAt t.data.toList = K) (hts : t.size ≤ 300) (hKt : K ≤ t.size) (hs : s.size ≤ 300) (h0 : 0 < s.size) (hm : ((s[0].toNat : Int) == 45) = true) (heq : ((K : Int) == (t.size : Int)) = true) (hnl : ¬ K < t.size) (hw : Hid (wholeB (t.data.toList.take K) = true)) (X : Nat) (hX : Hid (dv (t.data.toList.take K) = X)) (hX0 : Hid (X ≠ 0)) :
    Calls Tryd.prog 93 #[.string s] w fun e w' => ∃ v, e = .returned (.tuple #[v, .bool true]) ∧ PNv w' v true X 1 ∧ Below w.heap.size w w' := by
  obtain ⟨c1, c2, c5⟩ := boxes2 w #[.bool false, .slice none 0 0, .slice none 0 0] #[.bool true, .slice none 0 0, .slice none 0 0] 82 82
  have XR_0 := hid c1
  have XX_0 := hid c2
  have HB_0 := hid c5
  clear c1 c2 c5
  have hne : ((s.size : Int) == 0) = false := by rw [beq_eq_false_iff_ne]; omega
  have hs3 : (s.size : Int) ≤ 300 := by omega
  have HT := hid ht
  clear ht
  have HK := hid hK
  clear hK
  have hut : (t.extract 0 K).data.toList = t.data.toList.take K := ext_take t K
  have HUT := hid hut
  clear hut
  have hus : (t.extract 0 K).size ≤ 300 := by rw [ByteArray.size_extract]; omega
  go_enter Tryd.func93, Tryd.ntmps93
  go_wp2_with fail
  rw [← HT.out]
  refine (pslash_any t _ (by omega)).mono ?_
  rintro e wz ⟨rfl, rfl⟩
  rw [HK.out]
  obtain ⟨V0, hV⟩ : ∃ V0, V0 = (w.alloc (.cells #[.bool false, .slice none 0 0, .slice none 0 0] 82)).alloc (.cells #[.bool true, .slice none 0 0, .slice none 0 0] 82) := ⟨_, rfl⟩
  rw [← hV] at XR_0 XX_0 HB_0 ⊢
  clear hV
  have ltR := XR_0.out.lt
  have cR0 := XR_0.out.cell 0 _ rfl
  have zR0 := XR_0.out.frozen 0
  have cR1 := XR_0.out.cell 1 _ rfl
  have zR1 := XR_0.out.frozen 1
  have cR2 := XR_0.out.cell 2 _ rfl
  have zR2 := XR_0.out.frozen 2
  have ltX := XX_0.out.lt
  have cX0 := XX_0.out.cell 0 _ rfl
  have zX0 := XX_0.out.frozen 0
  have cX1 := XX_0.out.cell 1 _ rfl
  have zX1 := XX_0.out.frozen 1
  have cX2 := XX_0.out.cell 2 _ rfl
  have zX2 := XX_0.out.frozen 2
  go_wp2_with fail
  refine (pdigits_any (t.extract 0 K) _ (by omega)).mono ?_
  rintro e1 wz1 ⟨rfl, rfl⟩
  rw [HUT.out, hw.out]
  go_wp2_with fail
  refine (pdigits_any ⟨#[49]⟩ _ (by decide)).mono ?_
  rintro e2 wz2 ⟨rfl, rfl⟩
  rw [bytes49, whole49]
  go_wp2_with fail
  refine (pheard_any (t.extract 0 K) _ (by omega) (by rw [HUT.out]; exact whole_all hw.out)).mono ?_
  rintro e0 w0 ⟨v0, rfl, ⟨po, pn, pc, rfl, hr0, _⟩, hb0⟩
  have XR_1 := hid (XR_0.out.keep hb0)
  have XX_1 := hid (XX_0.out.keep hb0)
  have HB_1 : Hid (Below w.heap.size w w0) := HB_0.out.trans (hb0.mono HB_0.out.size)
  clear ltR cR0 zR0 cR1 zR1 cR2 zR2 ltX cX0 zX0 cX1 zX1 cX2 zX2
  have ltR := XR_1.out.lt
  have cR0 := XR_1.out.cell 0 _ rfl
  have zR0 := XR_1.out.frozen 0
  have cR1 := XR_1.out.cell 1 _ rfl
  have zR1 := XR_1.out.frozen 1
  have cR2 := XR_1.out.cell 2 _ rfl
  have zR2 := XR_1.out.frozen 2
  have ltX := XX_1.out.lt
  have cX0 := XX_1.out.cell 0 _ rfl
  have zX0 := XX_1.out.frozen 0
  have cX1 := XX_1.out.cell 1 _ rfl
  have zX1 := XX_1.out.frozen 1
  have cX2 := XX_1.out.cell 2 _ rfl
  have zX2 := XX_1.out.frozen 2
  rw [HUT.out, hX.out] at hr0
  have Rp_1 := hid hr0
  have lenp := hr0.len
  have bdp : pn ≤ 300 := by have h6 := limbs_dv hw.out; rw [hX.out] at h6; have h7 : (t.data.toList.take K).length ≤ K := List.length_take_le _ _; omega
  clear hb0 hr0
  go_wp2_with fail
  obtain ⟨V1, hV⟩ : ∃ V1, V1 = w0.setCell ⟨w.heap.size + 1, 1, none⟩ (.slice po pn pc) := ⟨_, rfl⟩
  rw [← hV]
  have VR_V1 := hid (XR_1.out.other ⟨w.heap.size + 1, 1, none⟩ (.slice po pn pc) (by show w.heap.size + 1 ≠ _; omega))
  have VX_V1 := hid (XX_1.out.set1 (.slice po pn pc))
  have Up_V1 := hid (Rp_1.out.other (w.heap.size + 1) 1 (.slice po pn pc) XX_1.out (by decide))
  have VBel_V1 := hid (HB_1.out.setCell (p := ⟨w.heap.size + 1, 1, none⟩) (by show w.heap.size ≤ w.heap.size + 1; omega) (.slice po pn pc))
  rw [← hV] at VR_V1 VX_V1 Up_V1 VBel_V1
  clear hV
  refine (pheard_any ⟨#[49]⟩ _ (by decide) (by rw [bytes49]; exact whole_all whole49)).mono ?_
  rintro e1 w1 ⟨v1, rfl, ⟨qo, qn, qc, rfl, hr1, _⟩, hb1⟩
  have XR_2 := hid (VR_V1.out.keep hb1)
  have XX_2 := hid (VX_V1.out.keep hb1)
  have Rp_2 := hid (Up_V1.out.below hb1)
  have HB_2 : Hid (Below w.heap.size w w1) := VBel_V1.out.trans (hb1.mono VBel_V1.out.size)
  clear ltR cR0 zR0 cR1 zR1 cR2 zR2 ltX cX0 zX0 cX1 zX1 cX2 zX2
  have ltR := XR_2.out.lt
  have cR0 := XR_2.out.cell 0 _ rfl
  have zR0 := XR_2.out.frozen 0
  have cR1 := XR_2.out.cell 1 _ rfl
  have zR1 := XR_2.out.frozen 1
  have cR2 := XR_2.out.cell 2 _ rfl
  have zR2 := XR_2.out.frozen 2
  have ltX := XX_2.out.lt
  have cX0 := XX_2.out.cell 0 _ rfl
  have zX0 := XX_2.out.frozen 0
  have cX1 := XX_2.out.cell 1 _ rfl
  have zX1 := XX_2.out.frozen 1
  have cX2 := XX_2.out.cell 2 _ rfl
  have zX2 := XX_2.out.frozen 2
  rw [bytes49, dv49] at hr1
  have Rq_2 := hid hr1
  clear hb1 hr1
  have hpn : ((pn : Int) == 0) = false := by
    rw [beq_eq_false_iff_ne]; have h2 := List.length_pos_iff.2 (limbs_ne_nil hX0.out); omega
  go_wp2
  have P0 := XR_2.out.other ⟨w.heap.size + 1, 2, none⟩ (.slice qo qn qc) (by show w.heap.size + 1 ≠ _; omega)
  have Z := (P0.put3 (.bool true) (.slice po pn pc) (.slice qo qn qc))
  have z0 := Z.cell 0 _ rfl
  have z1 := Z.cell 1 _ rfl
  have z2 := Z.cell 2 _ rfl
  unfold wput3 at z0 z1 z2
  have BB := (below_put3 (HB_2.out.setCell (p := ⟨w.heap.size + 1, 2, none⟩) (by show w.heap.size ≤ w.heap.size + 1; omega) (.slice qo qn qc)) (Nat.le_refl _) (.bool true) (.slice po pn pc) (.slice qo qn qc))
  refine bodyPost_ret (v := .tuple #[.agg #[.bool true, .slice po pn pc, .slice qo qn qc], .bool true]) (by simp [results, Tryd.results93, go_sem, z0, z1, z2]) rfl ⟨_, rfl, ⟨po, pn, pc, qo, qn, qc, rfl, ?_, ?_⟩, BB⟩
  · exact ((Rp_2.out.other _ _ _ XX_2.out (by decide)).put3 P0 (by decide) (.bool true) (.slice po pn pc) (.slice qo qn qc))
  · exact ((Rq_2.out.other _ _ _ XX_2.out (by decide)).put3 P0 (by decide) (.bool true) (.slice po pn pc) (.slice qo qn qc))

end Go.Proofs.YtddbflggcblfcaaDoor
