/- portionref.Floor: of any text. (Laid by mkrefp.py.) -/
import Derived.Test.YtddbflggcblfcaaDoorRefP
import Derived.Test.YtddbflggcblfcaaDoorWFloor
import Derived.Deep.RegionHeld3
namespace Go.Proofs.YtddbflggcblfcaaDoor
set_option linter.unusedSimpArgs false
set_option linter.unusedVariables false
open Go.RowKit Por

set_option maxHeartbeats 2000000 in
set_option maxRecDepth 20000 in
theorem pFloor_pos (a : ByteArray) (w : World) (x : Rat) (hx : Hid (readL a.data.toList = some x)) (hnb : Hid (negB x = false)) :
    Calls Tryd.prog 64 #[.string a] w fun e w' => e = .returned (.tuple #[.string ⟨(txt (flQ x)).toArray⟩, .int .i64 0]) ∧ Below w.heap.size w w' := by
  have SX := hid (readL_small hx.out)
  go_enter Tryd.func64, Tryd.ntmps64
  go_wp2_with fail
  refine (pread_yes a _ x hx.out).mono ?_
  rintro e0 w0 ⟨v, rfl, ⟨ao, n, capa, bo, m, capb, rfl, hr1, hr2⟩, hb0⟩
  rw [hnb.out]
  have b1 : n ≤ 300 := by have := hr1.len; have := SX.out.1; omega
  have b2 : m ≤ 300 := by have := hr2.len; have := SX.out.2; omega
  have HB_0 := hid hb0
  have R0_0 := hid hr1
  have R1_0 := hid hr2
  clear hb0 hr1 hr2
  have YX_1 := hid (bx_new w0 #[.bool false, .slice ao n capa, .slice bo m capb] 82)
  have Q0_1 := hid (R0_0.out.alloc (.cells #[.bool false, .slice ao n capa, .slice bo m capb] 82))
  have Q1_1 := hid (R1_0.out.alloc (.cells #[.bool false, .slice ao n capa, .slice bo m capb] 82))
  have HC_1 : Hid (Below w.heap.size w (w0.alloc (.cells #[.bool false, .slice ao n capa, .slice bo m capb] 82))) := HB_0.out.alloc HB_0.out.size (.cells #[.bool false, .slice ao n capa, .slice bo m capb] 82)
  go_wp2_with fail
  refine (pover_any ao bo n capa m capb x.num.natAbs x.den _ Q0_1.out Q1_1.out (by omega) (by omega) x.den_nz).mono ?_
  rintro e1 w1 ⟨u1, v1, rfl, ⟨qo, qn, qc, rfl, hq1, _⟩, ⟨ro, rn, rc, rfl, hs1, _⟩, hb1⟩
  have XX_2 := hid (YX_1.out.keep hb1)
  have R0_2 := hid (Q0_1.out.below hb1)
  have R1_2 := hid (Q1_1.out.below hb1)
  have HB_2 : Hid (Below w.heap.size w w1) := HC_1.out.trans (hb1.mono HC_1.out.size)
  have ltX := XX_2.out.lt
  have cX0 := XX_2.out.cell 0 _ rfl
  have zX0 := XX_2.out.frozen 0
  have cX1 := XX_2.out.cell 1 _ rfl
  have zX1 := XX_2.out.frozen 1
  have cX2 := XX_2.out.cell 2 _ rfl
  have zX2 := XX_2.out.frozen 2
  have Rq_2 := hid hq1
  have lenr := hs1.len
  have lenq : qn ≤ 300 := by rw [← hq1.len]; exact Nat.le_trans (len_mono (Nat.div_le_self _ _)) SX.out.1
  clear hb1 hq1 hs1
  go_wp2_with fail
  have a0 := XX_2.out.drew.cell 0 _ rfl
  go_region_held3 (fun w' => w'.cell? ⟨w0.heap.size, 0, none⟩ = some (.bool false)) (first | exact k90 | exact k80 | exact a0)
    (first | (go_at_call 55; refine (ptext_any false qo oo qn qc on oc (x.num.natAbs / x.den) 1 w8 (Rq_2.out.drew.below Hb8.out) Hr8.out (by omega) (by omega) (by omega)).mono ?_; rintro e9 w9 ⟨rfl, hb9⟩; have k90 := (XX_8.out.keep hb9).cell 0 _ rfl; have Hb9 := hid hb9; clear hb9) | (go_at_call 67; refine (pwhole_any 1 w1.drew (by omega)).mono ?_; rintro e8 w8 ⟨v8, rfl, ⟨oo, on, oc, rfl, hr8, _⟩, hb8⟩; have XX_8 := hid (XX_2.out.drew.keep hb8); have k80 := XX_8.out.cell 0 _ rfl; have leno : on ≤ 300 := (by rw [← hr8.len, limbs_one]; decide); have Hr8 := hid hr8; have Hb8 := hid hb8; clear hb8 hr8))
  go_wp2
  go_ret2
  refine ⟨?_, (HB_2.out.drew.trans (Hb8.out.mono HB_2.out.size)).trans (Hb9.out.mono (Nat.le_trans HB_2.out.size Hb8.out.size))⟩
  have hf := fl_pos x hnb.out
  have e := rat_mk (flQ x)
  rw [hf.1, hf.2, fl_den] at e
  rw [← e]; rfl

set_option maxHeartbeats 2000000 in
set_option maxRecDepth 20000 in
theorem pFloor_zero (a : ByteArray) (w : World) (x : Rat) (hx : Hid (readL a.data.toList = some x)) (hnb : Hid (negB x = true)) (hr0 : Hid (x.num.natAbs % x.den = 0)) :
    Calls Tryd.prog 64 #[.string a] w fun e w' => e = .returned (.tuple #[.string ⟨(txt (flQ x)).toArray⟩, .int .i64 0]) ∧ Below w.heap.size w w' := by
  have SX := hid (readL_small hx.out)
  go_enter Tryd.func64, Tryd.ntmps64
  go_wp2_with fail
  refine (pread_yes a _ x hx.out).mono ?_
  rintro e0 w0 ⟨v, rfl, ⟨ao, n, capa, bo, m, capb, rfl, hr1, hr2⟩, hb0⟩
  rw [hnb.out]
  have b1 : n ≤ 300 := by have := hr1.len; have := SX.out.1; omega
  have b2 : m ≤ 300 := by have := hr2.len; have := SX.out.2; omega
  have HB_0 := hid hb0
  have R0_0 := hid hr1
  have R1_0 := hid hr2
  clear hb0 hr1 hr2
  have YX_1 := hid (bx_new w0 #[.bool true, .slice ao n capa, .slice bo m capb] 82)
  have Q0_1 := hid (R0_0.out.alloc (.cells #[.bool true, .slice ao n capa, .slice bo m capb] 82))
  have Q1_1 := hid (R1_0.out.alloc (.cells #[.bool true, .slice ao n capa, .slice bo m capb] 82))
  have HC_1 : Hid (Below w.heap.size w (w0.alloc (.cells #[.bool true, .slice ao n capa, .slice bo m capb] 82))) := HB_0.out.alloc HB_0.out.size (.cells #[.bool true, .slice ao n capa, .slice bo m capb] 82)
  go_wp2_with fail
  refine (pover_any ao bo n capa m capb x.num.natAbs x.den _ Q0_1.out Q1_1.out (by omega) (by omega) x.den_nz).mono ?_
  rintro e1 w1 ⟨u1, v1, rfl, ⟨qo, qn, qc, rfl, hq1, _⟩, ⟨ro, rn, rc, rfl, hs1, _⟩, hb1⟩
  have XX_2 := hid (YX_1.out.keep hb1)
  have R0_2 := hid (Q0_1.out.below hb1)
  have R1_2 := hid (Q1_1.out.below hb1)
  have HB_2 : Hid (Below w.heap.size w w1) := HC_1.out.trans (hb1.mono HC_1.out.size)
  have ltX := XX_2.out.lt
  have cX0 := XX_2.out.cell 0 _ rfl
  have zX0 := XX_2.out.frozen 0
  have cX1 := XX_2.out.cell 1 _ rfl
  have zX1 := XX_2.out.frozen 1
  have cX2 := XX_2.out.cell 2 _ rfl
  have zX2 := XX_2.out.frozen 2
  have Rq_2 := hid hq1
  have lenr := hs1.len
  have lenq : qn ≤ 300 := by rw [← hq1.len]; exact Nat.le_trans (len_mono (Nat.div_le_self _ _)) SX.out.1
  clear hb1 hq1 hs1
  have hrn : rn = 0 := by rw [← lenr, hr0.out]; rfl
  subst hrn
  go_wp2_with fail
  have a0 := XX_2.out.drew.cell 0 _ rfl
  go_region_held3 (fun w' => w'.cell? ⟨w0.heap.size, 0, none⟩ = some (.bool true)) (first | exact k90 | exact k80 | exact a0)
    (first | (go_at_call 55; refine (ptext_any true qo oo qn qc on oc (x.num.natAbs / x.den) 1 w8 (Rq_2.out.drew.below Hb8.out) Hr8.out (by omega) (by omega) (by omega)).mono ?_; rintro e9 w9 ⟨rfl, hb9⟩; have k90 := (XX_8.out.keep hb9).cell 0 _ rfl; have Hb9 := hid hb9; clear hb9) | (go_at_call 67; refine (pwhole_any 1 w1.drew (by omega)).mono ?_; rintro e8 w8 ⟨v8, rfl, ⟨oo, on, oc, rfl, hr8, _⟩, hb8⟩; have XX_8 := hid (XX_2.out.drew.keep hb8); have k80 := XX_8.out.cell 0 _ rfl; have leno : on ≤ 300 := (by rw [← hr8.len, limbs_one]; decide); have Hr8 := hid hr8; have Hb8 := hid hb8; clear hb8 hr8))
  go_wp2
  go_ret2
  refine ⟨?_, (HB_2.out.drew.trans (Hb8.out.mono HB_2.out.size)).trans (Hb9.out.mono (Nat.le_trans HB_2.out.size Hb8.out.size))⟩
  have hf := fl_zero x hnb.out hr0.out
  have e := rat_mk (flQ x)
  rw [hf.1, hf.2, fl_den] at e
  rw [← e]; rfl

set_option maxHeartbeats 2000000 in
set_option maxRecDepth 20000 in
theorem pFloor_more (a : ByteArray) (w : World) (x : Rat) (hx : Hid (readL a.data.toList = some x)) (hnb : Hid (negB x = true)) (hr0 : Hid (x.num.natAbs % x.den ≠ 0)) :
    Calls Tryd.prog 64 #[.string a] w fun e w' => e = .returned (.tuple #[.string ⟨(txt (flQ x)).toArray⟩, .int .i64 0]) ∧ Below w.heap.size w w' := by
  have SX := hid (readL_small hx.out)
  go_enter Tryd.func64, Tryd.ntmps64
  go_wp2_with fail
  refine (pread_yes a _ x hx.out).mono ?_
  rintro e0 w0 ⟨v, rfl, ⟨ao, n, capa, bo, m, capb, rfl, hr1, hr2⟩, hb0⟩
  rw [hnb.out]
  have b1 : n ≤ 300 := by have := hr1.len; have := SX.out.1; omega
  have b2 : m ≤ 300 := by have := hr2.len; have := SX.out.2; omega
  have HB_0 := hid hb0
  have R0_0 := hid hr1
  have R1_0 := hid hr2
  clear hb0 hr1 hr2
  have YX_1 := hid (bx_new w0 #[.bool true, .slice ao n capa, .slice bo m capb] 82)
  have Q0_1 := hid (R0_0.out.alloc (.cells #[.bool true, .slice ao n capa, .slice bo m capb] 82))
  have Q1_1 := hid (R1_0.out.alloc (.cells #[.bool true, .slice ao n capa, .slice bo m capb] 82))
  have HC_1 : Hid (Below w.heap.size w (w0.alloc (.cells #[.bool true, .slice ao n capa, .slice bo m capb] 82))) := HB_0.out.alloc HB_0.out.size (.cells #[.bool true, .slice ao n capa, .slice bo m capb] 82)
  go_wp2_with fail
  refine (pover_any ao bo n capa m capb x.num.natAbs x.den _ Q0_1.out Q1_1.out (by omega) (by omega) x.den_nz).mono ?_
  rintro e1 w1 ⟨u1, v1, rfl, ⟨qo, qn, qc, rfl, hq1, _⟩, ⟨ro, rn, rc, rfl, hs1, _⟩, hb1⟩
  have XX_2 := hid (YX_1.out.keep hb1)
  have R0_2 := hid (Q0_1.out.below hb1)
  have R1_2 := hid (Q1_1.out.below hb1)
  have HB_2 : Hid (Below w.heap.size w w1) := HC_1.out.trans (hb1.mono HC_1.out.size)
  have ltX := XX_2.out.lt
  have cX0 := XX_2.out.cell 0 _ rfl
  have zX0 := XX_2.out.frozen 0
  have cX1 := XX_2.out.cell 1 _ rfl
  have zX1 := XX_2.out.frozen 1
  have cX2 := XX_2.out.cell 2 _ rfl
  have zX2 := XX_2.out.frozen 2
  have Rq_2 := hid hq1
  have lenr := hs1.len
  have lenq : qn ≤ 300 := by rw [← hq1.len]; exact Nat.le_trans (len_mono (Nat.div_le_self _ _)) SX.out.1
  clear hb1 hq1 hs1
  have hrn : 0 < rn := by rw [← lenr]; exact List.length_pos_iff.2 (limbs_ne_nil hr0.out)
  have hrn2 : (0 : Int) < (rn : Int) := by omega
  go_wp2_with fail
  refine (pwhole_any 1 _ (by omega)).mono ?_
  rintro e2 w2 ⟨v2, rfl, ⟨jo, jn, jc, rfl, hq2, _⟩, hb2⟩
  have XX_3 := hid (XX_2.out.keep hb2)
  have R0_3 := hid (R0_2.out.below hb2)
  have R1_3 := hid (R1_2.out.below hb2)
  have Rq_3 := hid (Rq_2.out.below hb2)
  have HB_3 : Hid (Below w.heap.size w w2) := HB_2.out.trans (hb2.mono HB_2.out.size)
  clear ltX cX0 zX0 cX1 zX1 cX2 zX2
  have ltX := XX_3.out.lt
  have cX0 := XX_3.out.cell 0 _ rfl
  have zX0 := XX_3.out.frozen 0
  have cX1 := XX_3.out.cell 1 _ rfl
  have zX1 := XX_3.out.frozen 1
  have cX2 := XX_3.out.cell 2 _ rfl
  have zX2 := XX_3.out.frozen 2
  have Rj_3 := hid hq2
  have lenj : jn ≤ 300 := by rw [← hq2.len, limbs_one]; decide
  clear hb2 hq2
  go_wp2_with fail
  refine (pplus_any qo jo qn qc jn jc (x.num.natAbs / x.den) 1 _ Rq_3.out Rj_3.out (by omega) (by omega)).mono ?_
  rintro e3 w3 ⟨v3, rfl, ⟨zo, zn, zc, rfl, hq3, _⟩, hb3⟩
  have XX_4 := hid (XX_3.out.keep hb3)
  have R0_4 := hid (R0_3.out.below hb3)
  have R1_4 := hid (R1_3.out.below hb3)
  have Rq_4 := hid (Rq_3.out.below hb3)
  have Rj_4 := hid (Rj_3.out.below hb3)
  have HB_4 : Hid (Below w.heap.size w w3) := HB_3.out.trans (hb3.mono HB_3.out.size)
  clear ltX cX0 zX0 cX1 zX1 cX2 zX2
  have ltX := XX_4.out.lt
  have cX0 := XX_4.out.cell 0 _ rfl
  have zX0 := XX_4.out.frozen 0
  have cX1 := XX_4.out.cell 1 _ rfl
  have zX1 := XX_4.out.frozen 1
  have cX2 := XX_4.out.cell 2 _ rfl
  have zX2 := XX_4.out.frozen 2
  have Rz_4 := hid hq3
  have lenz : zn ≤ 400 := by rw [← hq3.len]; exact Nat.le_trans (len_mono (show x.num.natAbs / x.den + 1 ≤ x.num.natAbs + 1 from Nat.succ_le_succ (Nat.div_le_self _ _))) (Nat.le_trans (len_add _ _) (by have := SX.out.1; have e1 : (limbs 1).length = 1 := (by rw [limbs_one]; rfl); omega))
  clear hb3 hq3
  go_wp2_with fail
  have a0 := XX_4.out.drew.cell 0 _ rfl
  go_region_held3 (fun w' => w'.cell? ⟨w0.heap.size, 0, none⟩ = some (.bool true)) (first | exact k90 | exact k80 | exact a0)
    (first | (go_at_call 55; refine (ptext_any true zo oo zn zc on oc (x.num.natAbs / x.den + 1) 1 w8 (Rz_4.out.drew.below Hb8.out) Hr8.out (by omega) (by omega) (by omega)).mono ?_; rintro e9 w9 ⟨rfl, hb9⟩; have k90 := (XX_8.out.keep hb9).cell 0 _ rfl; have Hb9 := hid hb9; clear hb9) | (go_at_call 67; refine (pwhole_any 1 w3.drew (by omega)).mono ?_; rintro e8 w8 ⟨v8, rfl, ⟨oo, on, oc, rfl, hr8, _⟩, hb8⟩; have XX_8 := hid (XX_4.out.drew.keep hb8); have k80 := XX_8.out.cell 0 _ rfl; have leno : on ≤ 300 := (by rw [← hr8.len, limbs_one]; decide); have Hr8 := hid hr8; have Hb8 := hid hb8; clear hb8 hr8))
  go_wp2
  go_ret2
  refine ⟨?_, (HB_4.out.drew.trans (Hb8.out.mono HB_4.out.size)).trans (Hb9.out.mono (Nat.le_trans HB_4.out.size Hb8.out.size))⟩
  have hf := fl_more x hnb.out hr0.out
  have e := rat_mk (flQ x)
  rw [hf.1, hf.2, fl_den] at e
  rw [← e]; rfl

theorem pFloor_yes (a : ByteArray) (w : World) (x : Rat) (hx : Hid (readL a.data.toList = some x)) :
    Calls Tryd.prog 64 #[.string a] w fun e w' => e = .returned (.tuple #[.string ⟨(txt (flQ x)).toArray⟩, .int .i64 0]) ∧ Below w.heap.size w w' := by
  cases hn : negB x with
  | false => exact pFloor_pos a w x hx hn
  | true =>
    by_cases hr : x.num.natAbs % x.den = 0
    · exact pFloor_zero a w x hx hn hr
    · exact pFloor_more a w x hx hn hr

set_option maxHeartbeats 2000000 in
set_option maxRecDepth 20000 in
theorem pFloor_no (a : ByteArray) (w : World) (hm : a.size ≤ maxLen) (hq : Hid (readL a.data.toList = none)) :
    Calls Tryd.prog 64 #[.string a] w fun e w' => e = .returned (.tuple #[.string ⟨#[]⟩, .int .i64 1]) ∧ Below w.heap.size w w' := by
  go_enter Tryd.func64, Tryd.ntmps64
  go_wp2_with fail
  refine (pread_no a _ hm hq.out).mono ?_
  rintro e0 w0 ⟨nb, na, nn, nc, oa, on, oc, rfl, hb0⟩
  have HB := hid hb0
  clear hb0
  go_wp2
  go_ret2
  exact ⟨rfl, HB.out.alloc HB.out.size _⟩

end Go.Proofs.YtddbflggcblfcaaDoor
