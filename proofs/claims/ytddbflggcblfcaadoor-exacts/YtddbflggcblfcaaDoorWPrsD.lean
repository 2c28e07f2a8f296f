/- ratio.Parse: the sixth way, and all of them. (Laid by mkprs.py.) -/
import Derived.Test.YtddbflggcblfcaaDoorWPrsA
import Derived.Test.YtddbflggcblfcaaDoorWPrsC
import Derived.Deep.RegionHeld3
namespace Go.Proofs.YtddbflggcblfcaaDoor
set_option linter.unusedSimpArgs false
set_option linter.unusedVariables false
open Go.RowKit Por

set_option maxHeartbeats 2000000 in
set_option maxRecDepth 20000 in
theorem parse3_true (s t : ByteArray) (K : Nat) (w : World) (ht : t = s.extract 1 s.size) (hK : slashAt t.data.toList = K) (hts : t.size ≤ 300) (hKt : K ≤ t.size) (hs : s.size ≤ 300) (h0 : 0 < s.size) (hm : ((s[0].toNat : Int) == 45) = true) (X : Nat) (hw : Hid (wholeB (t.data.toList.take K) = true)) (hX : Hid (dv (t.data.toList.take K) = X)) (hz : isZ X = false) (heq : ((K : Int) == (t.size : Int)) = true) (q : Rat) (hq : Hid (q.num.natAbs = X ∧ q.den = 1 ∧ negB q = true)) :
    Calls Tryd.prog 111 #[.string s] w fun e w' => ∃ v, e = .returned (.tuple #[v, .bool true]) ∧ Frac w' v q ∧ Below w.heap.size w w' := by
  have XR_0 := hid (bx_new w #[.bool false, .slice none 0 0, .slice none 0 0] 76)
  have HB_0 := hid ((Below.refl _ w).alloc (Nat.le_refl _) (.cells #[.bool false, .slice none 0 0, .slice none 0 0] 76))
  have HT := hid ht
  have HK := hid hK
  have HS := hid hts
  clear ht hK
  have hut : (t.extract 0 K).data.toList = t.data.toList.take K := ext_take t K
  have HUT := hid hut
  clear hut
  have hus : (t.extract 0 K).size ≤ 300 := by rw [ByteArray.size_extract]; omega
  go_enter Tryd.func111, Tryd.ntmps111
  go_wp2_with fail
  rw [← HT.out]
  refine (slashIn_any t _ (by omega)).mono ?_
  rintro e wz ⟨rfl, rfl⟩
  rw [HK.out]
  have ltR := XR_0.out.lt
  have cR0 := XR_0.out.cell 0 _ rfl
  have zR0 := XR_0.out.frozen 0
  have cR1 := XR_0.out.cell 1 _ rfl
  have zR1 := XR_0.out.frozen 1
  have cR2 := XR_0.out.cell 2 _ rfl
  have zR2 := XR_0.out.frozen 2
  go_wp2_with fail
  refine (parse_yes (t.extract 0 K) _ (by omega) (by rw [HUT.out]; exact hw.out)).mono ?_
  rintro e0 w0 ⟨v0, rfl, ⟨uo, un, uc, rfl, hr0⟩, hb0⟩
  have XR_1 := hid (XR_0.out.keep hb0)
  have HB_1 : Hid (Below w.heap.size w w0) := HB_0.out.trans (hb0.mono HB_0.out.size)
  clear ltR cR0 zR0 cR1 zR1 cR2 zR2
  have ltR := XR_1.out.lt
  have cR0 := XR_1.out.cell 0 _ rfl
  have zR0 := XR_1.out.frozen 0
  have cR1 := XR_1.out.cell 1 _ rfl
  have zR1 := XR_1.out.frozen 1
  have cR2 := XR_1.out.cell 2 _ rfl
  have zR2 := XR_1.out.frozen 2
  rw [HUT.out, hX.out] at hr0
  have Ru_1 := hid hr0
  have lenu : un ≤ 300 := by have h5 := hr0.len; have h6 := limbs_dv hw.out; rw [hX.out] at h6; have h7 : (t.data.toList.take K).length ≤ K := List.length_take_le _ _; omega
  clear hb0 hr0
  have YR_1 := hid (bx_past XR_1.out (.cells #[.slice uo un uc] 74))
  have Yu_1 := hid (bx_new w0 #[.slice uo un uc] 74)
  have Qu_1 := hid (Ru_1.out.alloc (.cells #[.slice uo un uc] 74))
  have HC_1 : Hid (Below w.heap.size w (w0.alloc (.cells #[.slice uo un uc] 74))) := HB_1.out.alloc HB_1.out.size (.cells #[.slice uo un uc] 74)
  have hp0 := XR_1.out.lt
  go_wp2_with fail
  refine (isZero_any uo un uc X _ Qu_1.out (by omega)).mono ?_
  rintro e1 w1 ⟨rfl, hb1⟩
  have XR_2 := hid (YR_1.out.keep hb1)
  have Xu_2 := hid (Yu_1.out.keep hb1)
  have Ru_2 := hid (Qu_1.out.below hb1)
  have HB_2 : Hid (Below w.heap.size w w1) := HC_1.out.trans (hb1.mono HC_1.out.size)
  clear ltR cR0 zR0 cR1 zR1 cR2 zR2
  have ltR := XR_2.out.lt
  have cR0 := XR_2.out.cell 0 _ rfl
  have zR0 := XR_2.out.frozen 0
  have cR1 := XR_2.out.cell 1 _ rfl
  have zR1 := XR_2.out.frozen 1
  have cR2 := XR_2.out.cell 2 _ rfl
  have zR2 := XR_2.out.frozen 2
  have ltu := Xu_2.out.lt
  have cu0 := Xu_2.out.cell 0 _ rfl
  clear hb1
  go_wp2_with fail
  obtain ⟨V, hV⟩ : ∃ V, V = w1 := ⟨_, rfl⟩
  rw [← hV] at XR_2 Xu_2 Ru_2 HB_2 ⊢
  have g0 := Xu_2.out.cell 0 _ rfl
  have r0 := XR_2.out.cell 0 _ rfl
  have f0 := XR_2.out.frozen 0
  have r1 := XR_2.out.cell 1 _ rfl
  have f1 := XR_2.out.frozen 1
  have r2 := XR_2.out.cell 2 _ rfl
  have f2 := XR_2.out.frozen 2
  clear hV
  go_region_held3 (fun w' => w'.cell? ⟨w0.heap.size, 0, none⟩ = some (.slice uo un uc)) (first | exact k0 | exact g0 | exact (cell_put3 (by omega)).trans k0)
    (first | (go_at_call 92; refine (one_any _).mono ?_; rintro e w4 ⟨v, rfl, ⟨oo, on, oc, rfl, hr4⟩, hb4⟩; have k0 := (Xu_2.out.drew.keep hb4).cell 0 _ rfl; have m0 := (XR_2.out.drew.keep hb4).cell 0 _ rfl; have m1 := (XR_2.out.drew.keep hb4).cell 1 _ rfl; have m2 := (XR_2.out.drew.keep hb4).cell 2 _ rfl; have j0 := (XR_2.out.drew.keep hb4).frozen 0; have j1 := (XR_2.out.drew.keep hb4).frozen 1; have j2 := (XR_2.out.drew.keep hb4).frozen 2; have Hb4 := hid hb4; have Hr4 := hid hr4; clear hb4 hr4))
  go_wp2
  have X4 := XR_2.out.drew.keep Hb4.out
  have Z := X4.put3 (.bool true) (.slice uo un uc) (.slice oo on oc)
  have z0 := Z.cell 0 _ rfl
  have z1 := Z.cell 1 _ rfl
  have z2 := Z.cell 2 _ rfl
  unfold wput3 at z0 z1 z2
  refine bodyPost_ret (v := .tuple #[.agg #[.bool true, .slice uo un uc, .slice oo on oc], .bool true]) (by simp [results, Tryd.results111, go_sem, z0, z1, z2]) rfl ⟨_, rfl, ⟨uo, un, uc, oo, on, oc, ?_, ?_, ?_⟩, below_put3 (HB_2.out.drew.trans (Hb4.out.mono HB_2.out.size)) (Nat.le_refl _) _ _ _⟩
  · rw [hq.out.2.2]
  · rw [hq.out.1]; exact (Ru_2.out.drew.below Hb4.out).put3 X4 (by decide) _ _ _
  · rw [hq.out.2.1]; exact Hr4.out.put3 X4 (by decide) _ _ _

set_option maxHeartbeats 2000000 in
set_option maxRecDepth 20000 in
theorem parse3_false (t : ByteArray) (K : Nat) (w : World) (hK : slashAt t.data.toList = K) (hts : t.size ≤ 300) (hKt : K ≤ t.size) (h0 : 0 < t.size) (hm : ((t[0].toNat : Int) == 45) = false) (X : Nat) (hw : Hid (wholeB (t.data.toList.take K) = true)) (hX : Hid (dv (t.data.toList.take K) = X)) (heq : ((K : Int) == (t.size : Int)) = true) (q : Rat) (hq : Hid (q.num.natAbs = X ∧ q.den = 1 ∧ negB q = false)) :
    Calls Tryd.prog 111 #[.string t] w fun e w' => ∃ v, e = .returned (.tuple #[v, .bool true]) ∧ Frac w' v q ∧ Below w.heap.size w w' := by
  have XR_0 := hid (bx_new w #[.bool false, .slice none 0 0, .slice none 0 0] 76)
  have HB_0 := hid ((Below.refl _ w).alloc (Nat.le_refl _) (.cells #[.bool false, .slice none 0 0, .slice none 0 0] 76))
  have HK := hid hK
  have HS := hid hts
  clear hK
  have hut : (t.extract 0 K).data.toList = t.data.toList.take K := ext_take t K
  have HUT := hid hut
  clear hut
  have hus : (t.extract 0 K).size ≤ 300 := by rw [ByteArray.size_extract]; omega
  go_enter Tryd.func111, Tryd.ntmps111
  go_wp2_with fail
  refine (slashIn_any t _ (by omega)).mono ?_
  rintro e wz ⟨rfl, rfl⟩
  rw [HK.out]
  have ltR := XR_0.out.lt
  have cR0 := XR_0.out.cell 0 _ rfl
  have zR0 := XR_0.out.frozen 0
  have cR1 := XR_0.out.cell 1 _ rfl
  have zR1 := XR_0.out.frozen 1
  have cR2 := XR_0.out.cell 2 _ rfl
  have zR2 := XR_0.out.frozen 2
  go_wp2_with fail
  refine (parse_yes (t.extract 0 K) _ (by omega) (by rw [HUT.out]; exact hw.out)).mono ?_
  rintro e0 w0 ⟨v0, rfl, ⟨uo, un, uc, rfl, hr0⟩, hb0⟩
  have XR_1 := hid (XR_0.out.keep hb0)
  have HB_1 : Hid (Below w.heap.size w w0) := HB_0.out.trans (hb0.mono HB_0.out.size)
  clear ltR cR0 zR0 cR1 zR1 cR2 zR2
  have ltR := XR_1.out.lt
  have cR0 := XR_1.out.cell 0 _ rfl
  have zR0 := XR_1.out.frozen 0
  have cR1 := XR_1.out.cell 1 _ rfl
  have zR1 := XR_1.out.frozen 1
  have cR2 := XR_1.out.cell 2 _ rfl
  have zR2 := XR_1.out.frozen 2
  rw [HUT.out, hX.out] at hr0
  have Ru_1 := hid hr0
  have lenu : un ≤ 300 := by have h5 := hr0.len; have h6 := limbs_dv hw.out; rw [hX.out] at h6; have h7 : (t.data.toList.take K).length ≤ K := List.length_take_le _ _; omega
  clear hb0 hr0
  have YR_1 := hid (bx_past XR_1.out (.cells #[.slice uo un uc] 74))
  have Yu_1 := hid (bx_new w0 #[.slice uo un uc] 74)
  have Qu_1 := hid (Ru_1.out.alloc (.cells #[.slice uo un uc] 74))
  have HC_1 : Hid (Below w.heap.size w (w0.alloc (.cells #[.slice uo un uc] 74))) := HB_1.out.alloc HB_1.out.size (.cells #[.slice uo un uc] 74)
  have hp0 := XR_1.out.lt
  go_wp2_with fail
  obtain ⟨V, hV⟩ : ∃ V, V = (w0.alloc (.cells #[.slice uo un uc] 74)) := ⟨_, rfl⟩
  rw [← hV] at YR_1 Yu_1 Qu_1 HC_1 ⊢
  have g0 := Yu_1.out.cell 0 _ rfl
  have r0 := YR_1.out.cell 0 _ rfl
  have f0 := YR_1.out.frozen 0
  have r1 := YR_1.out.cell 1 _ rfl
  have f1 := YR_1.out.frozen 1
  have r2 := YR_1.out.cell 2 _ rfl
  have f2 := YR_1.out.frozen 2
  clear hV
  go_region_held3 (fun w' => w'.cell? ⟨w0.heap.size, 0, none⟩ = some (.slice uo un uc)) (first | exact k0 | exact g0 | exact (cell_put3 (by omega)).trans k0)
    (first | (go_at_call 92; refine (one_any _).mono ?_; rintro e w4 ⟨v, rfl, ⟨oo, on, oc, rfl, hr4⟩, hb4⟩; have k0 := (Yu_1.out.drew.keep hb4).cell 0 _ rfl; have m0 := (YR_1.out.drew.keep hb4).cell 0 _ rfl; have m1 := (YR_1.out.drew.keep hb4).cell 1 _ rfl; have m2 := (YR_1.out.drew.keep hb4).cell 2 _ rfl; have j0 := (YR_1.out.drew.keep hb4).frozen 0; have j1 := (YR_1.out.drew.keep hb4).frozen 1; have j2 := (YR_1.out.drew.keep hb4).frozen 2; have Hb4 := hid hb4; have Hr4 := hid hr4; clear hb4 hr4))
  go_wp2
  have X4 := YR_1.out.drew.keep Hb4.out
  have Z := X4.put3 (.bool false) (.slice uo un uc) (.slice oo on oc)
  have z0 := Z.cell 0 _ rfl
  have z1 := Z.cell 1 _ rfl
  have z2 := Z.cell 2 _ rfl
  unfold wput3 at z0 z1 z2
  refine bodyPost_ret (v := .tuple #[.agg #[.bool false, .slice uo un uc, .slice oo on oc], .bool true]) (by simp [results, Tryd.results111, go_sem, z0, z1, z2]) rfl ⟨_, rfl, ⟨uo, un, uc, oo, on, oc, ?_, ?_, ?_⟩, below_put3 (HC_1.out.drew.trans (Hb4.out.mono HC_1.out.size)) (Nat.le_refl _) _ _ _⟩
  · rw [hq.out.2.2]
  · rw [hq.out.1]; exact (Qu_1.out.drew.below Hb4.out).put3 X4 (by decide) _ _ _
  · rw [hq.out.2.1]; exact Hr4.out.put3 X4 (by decide) _ _ _

set_option maxHeartbeats 2000000 in
set_option maxRecDepth 20000 in
theorem parse0 (t : ByteArray) (w : World) (h0 : t.size = 0) :
    Calls Tryd.prog 111 #[.string t] w fun e w' => e = .returned (.tuple #[.agg #[.bool false, .slice none 0 0, .slice none 0 0], .bool false]) ∧ Below w.heap.size w w' := by
  have XR_0 := hid (bx_new w #[.bool false, .slice none 0 0, .slice none 0 0] 76)
  have HB_0 := hid ((Below.refl _ w).alloc (Nat.le_refl _) (.cells #[.bool false, .slice none 0 0, .slice none 0 0] 76))
  have HL : Hid (t.data.toList = []) := List.eq_nil_of_length_eq_zero (by simpa using h0)
  have HK : Hid (slashAt t.data.toList = 0) := by show _ = _; rw [HL.out]; rfl
  have HW : Hid (wholeB (t.extract 0 0).data.toList = false) := by show _ = _; rw [ext_take]; rfl
  have hus : (t.extract 0 0).size ≤ 300 := by rw [ByteArray.size_extract]; omega
  go_enter Tryd.func111, Tryd.ntmps111
  go_wp2_with fail
  refine (slashIn_any t _ (by omega)).mono ?_
  rintro e wz ⟨rfl, rfl⟩
  rw [HK.out]
  have ltR := XR_0.out.lt
  have cR0 := XR_0.out.cell 0 _ rfl
  have zR0 := XR_0.out.frozen 0
  have cR1 := XR_0.out.cell 1 _ rfl
  have zR1 := XR_0.out.frozen 1
  have cR2 := XR_0.out.cell 2 _ rfl
  have zR2 := XR_0.out.frozen 2
  go_wp2_with fail
  refine (parse_no ByteArray.empty _ (by decide) rfl).mono ?_
  rintro e0 w0 ⟨rfl, hb0⟩
  have XR_1 := hid (XR_0.out.keep hb0)
  have HB_1 : Hid (Below w.heap.size w w0) := HB_0.out.trans (hb0.mono HB_0.out.size)
  clear ltR cR0 zR0 cR1 zR1 cR2 zR2
  have ltR := XR_1.out.lt
  have cR0 := XR_1.out.cell 0 _ rfl
  have zR0 := XR_1.out.frozen 0
  have cR1 := XR_1.out.cell 1 _ rfl
  have zR1 := XR_1.out.frozen 1
  have cR2 := XR_1.out.cell 2 _ rfl
  have zR2 := XR_1.out.frozen 2
  clear hb0
  have YR_1 := hid (bx_past XR_1.out (.cells #[.slice none 0 0] 74))
  have Yu_1 := hid (bx_new w0 #[.slice none 0 0] 74)
  have HC_1 : Hid (Below w.heap.size w (w0.alloc (.cells #[.slice none 0 0] 74))) := HB_1.out.alloc HB_1.out.size (.cells #[.slice none 0 0] 74)
  go_wp2
  have Z := bx_past (XR_1.out.put3 (.bool false) (.slice none 0 0) (.slice none 0 0)) (.cells #[.slice none 0 0] 74)
  have z0 := Z.cell 0 _ rfl
  have z1 := Z.cell 1 _ rfl
  have z2 := Z.cell 2 _ rfl
  unfold wput3 at z0 z1 z2
  have BB := below_put3 HB_1.out (Nat.le_refl _) (.bool false) (.slice none 0 0) (.slice none 0 0)
  exact bodyPost_ret (v := .tuple #[.agg #[.bool false, .slice none 0 0, .slice none 0 0], .bool false]) (by simp [results, Tryd.results111, go_sem, z0, z1, z2]) rfl ⟨rfl, BB.alloc BB.size _⟩

theorem parseU_true (s t : ByteArray) (w : World) (ht : t = s.extract 1 s.size) (hts : t.size ≤ 300) (hs : s.size ≤ 300) (h0 : 0 < s.size) (hm : ((s[0].toNat : Int) == 45) = true) :
    Calls Tryd.prog 111 #[.string s] w fun e w' => ParseEnd w w' e (parseU true t.data.toList) := by
  obtain ⟨K, hK⟩ : ∃ K, slashAt t.data.toList = K := ⟨_, rfl⟩
  have hKt : K ≤ t.size := by have := slashAt_le t.data.toList; have e : t.data.toList.length = t.size := (by simp); omega
  have htl : t.data.toList.length = t.size := (by simp)
  unfold parseU
  rw [hK]
  cases hw : wholeB (t.data.toList.take K) with
  | false =>
    rw [if_neg (by simp)]
    exact parse1_true s t K w ht hK hts hKt hs h0 hm hw
  | true =>
    rw [if_pos rfl]
    obtain ⟨X, hX⟩ : ∃ X, dv (t.data.toList.take K) = X := ⟨_, rfl⟩
    rw [hX]
    cases hz : isZ X with
    | true =>
      rw [if_pos (by unfold isZ at hz; simpa [zeroB] using hz)]
      exact parse2_true s t K w ht hK hts hKt hs h0 hm X hw hX hz
    | false =>
    have hzb : zeroB true X = false := by unfold isZ at hz; simpa [zeroB] using hz
    rw [if_neg (by rw [hzb]; simp)]
    by_cases hk : K = t.data.toList.length
    · rw [if_pos hk]
      exact parse3_true s t K w ht hK hts hKt hs h0 hm X hw hX hz (by rw [beq_iff_eq]; omega) _ (low_canon true X 1 (by omega) (Nat.gcd_one_right X) hzb)
    · rw [if_neg hk]
      have hlt : K < t.size := by omega
      have hne : ((K : Int) == (t.size : Int)) = false := by rw [beq_eq_false_iff_ne]; omega
      cases hv : wholeB (t.data.toList.drop (K + 1)) with
      | false =>
        rw [if_neg (by simp)]
        exact parse4_true s t K w ht hK hts hKt hs h0 hm X hw hX hz hne hlt hv
      | true =>
        rw [if_pos rfl]
        obtain ⟨Y, hY⟩ : ∃ Y, dv (t.data.toList.drop (K + 1)) = Y := ⟨_, rfl⟩
        rw [hY]
        cases hl : lowB X Y with
        | false =>
          rw [if_neg (by simp)]
          exact parse5_true s t K w ht hK hts hKt hs h0 hm X hw hX hz hne hlt Y hv hY hl
        | true =>
          rw [if_pos rfl]
          have hg : 1 < Y ∧ Nat.gcd X Y = 1 := by unfold lowB at hl; simpa using hl
          exact parse6_true s t K w ht hK hts hKt hs h0 hm X hw hX hz hne hlt Y hv hY hl _ (low_canon true X Y (by omega) hg.2 hzb)

theorem parseU_false (t : ByteArray) (w : World) (hts : t.size ≤ 300) (h0 : 0 < t.size) (hm : ((t[0].toNat : Int) == 45) = false) :
    Calls Tryd.prog 111 #[.string t] w fun e w' => ParseEnd w w' e (parseU false t.data.toList) := by
  obtain ⟨K, hK⟩ : ∃ K, slashAt t.data.toList = K := ⟨_, rfl⟩
  have hKt : K ≤ t.size := by have := slashAt_le t.data.toList; have e : t.data.toList.length = t.size := (by simp); omega
  have htl : t.data.toList.length = t.size := (by simp)
  unfold parseU
  rw [hK]
  cases hw : wholeB (t.data.toList.take K) with
  | false =>
    rw [if_neg (by simp)]
    exact parse1_false t K w hK hts hKt h0 hm hw
  | true =>
    rw [if_pos rfl]
    obtain ⟨X, hX⟩ : ∃ X, dv (t.data.toList.take K) = X := ⟨_, rfl⟩
    rw [hX]
    have hzb : zeroB false X = false := rfl
    rw [if_neg (by rw [hzb]; simp)]
    by_cases hk : K = t.data.toList.length
    · rw [if_pos hk]
      exact parse3_false t K w hK hts hKt h0 hm X hw hX (by rw [beq_iff_eq]; omega) _ (low_canon false X 1 (by omega) (Nat.gcd_one_right X) hzb)
    · rw [if_neg hk]
      have hlt : K < t.size := by omega
      have hne : ((K : Int) == (t.size : Int)) = false := by rw [beq_eq_false_iff_ne]; omega
      cases hv : wholeB (t.data.toList.drop (K + 1)) with
      | false =>
        rw [if_neg (by simp)]
        exact parse4_false t K w hK hts hKt h0 hm X hw hX hne hlt hv
      | true =>
        rw [if_pos rfl]
        obtain ⟨Y, hY⟩ : ∃ Y, dv (t.data.toList.drop (K + 1)) = Y := ⟨_, rfl⟩
        rw [hY]
        cases hl : lowB X Y with
        | false =>
          rw [if_neg (by simp)]
          exact parse5_false t K w hK hts hKt h0 hm X hw hX hne hlt Y hv hY hl
        | true =>
          rw [if_pos rfl]
          have hg : 1 < Y ∧ Nat.gcd X Y = 1 := by unfold lowB at hl; simpa using hl
          exact parse6_false t K w hK hts hKt h0 hm X hw hX hne hlt Y hv hY hl _ (low_canon false X Y (by omega) hg.2 hzb)

theorem rparse_any (s : ByteArray) (w : World) (hs : s.size ≤ 300) :
    Calls Tryd.prog 111 #[.string s] w fun e w' => ParseEnd w w' e (parseL s.data.toList) := by
  by_cases h0 : s.size = 0
  · have e : s.data.toList = [] := List.eq_nil_of_length_eq_zero (by simpa using h0)
    rw [e]
    exact parse0 s w h0
  · have hp : 0 < s.size := by omega
    have hh : s.data.toList.head? = some s[0] := by
      rw [List.head?_eq_getElem?, List.getElem?_eq_getElem (by simpa using hp)]; rfl
    unfold parseL
    rw [hh]
    by_cases hm : s[0] = 45
    · rw [if_pos (by rw [hm])]
      have := parseU_true s (s.extract 1 s.size) w rfl (by rw [ByteArray.size_extract]; omega) hs hp (by rw [hm]; rfl)
      rwa [ext_tail] at this
    · rw [if_neg (by intro hc; exact hm (Option.some.inj hc))]
      exact parseU_false s w hs hp (by
        rw [beq_eq_false_iff_ne]
        intro hc
        apply hm
        apply UInt8.toNat_inj.1
        have e : (45 : UInt8).toNat = 45 := rfl
        omega)
end Go.Proofs.YtddbflggcblfcaaDoor
