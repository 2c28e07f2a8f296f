/- portionlaw.Weighs. (Laid by mkweigh.py.) -/
import Derived.Test.YtigokanoflkinaaDoorRUse
import Derived.Test.YtigokanoflkinaaDoorLTxt
import Derived.Test.YtigokanoflkinaaDoorLWhole
namespace Go.Proofs.YtigokanoflkinaaDoor
set_option linter.unusedSimpArgs false
set_option linter.unusedVariables false
open Go.RowKit Por

set_option maxHeartbeats 20000000 in
set_option maxRecDepth 20000 in
theorem weighs_any (po : Option Addr) (pn pc : Nat) (pool : List Int) (ao : Option Addr) (n cap : Nat) (us : List Usr) (vo : Option Addr) (m cap2 : Nat) (ss : List ByteArray) (kk : Int) (w : World) (hp : Arr w 1 po pn pc (ints pool)) (hu : Users w ao n cap us) (ha : Arr w 1 vo m cap2 (strs ss)) (hs : ∀ i, (tx ss i).size ≤ maxLen) (ht : Tab w) (hpn : pn ≤ 17592186044416) (hn : n ≤ 3518437208882) (hdl : ∀ i, i < us.length → (ug us i).dem.length ≤ 17592186044416) (hm : m ≤ 1000000000) :
    Calls Tryd.prog 4 #[.slice po pn pc, .slice ao n cap, .slice vo m cap2, .int .i64 kk] w fun e w' => e = .returned (.bool true) ∧ Below w.heap.size w w' := by
  have hpl := hp.len
  rw [ints_len] at hpl
  have hul := hu.1
  have hml := ha.len
  rw [strs_len] at hml
  subst hpl
  subst hul
  subst hml
  have HP := hid hp
  have HU := hid hu
  have HA := hid ha
  have HS := hid hs
  have HT := hid ht
  have HDL := hid hdl
  clear hp hu ha hs ht hdl
  have HB_0 := hid (Below.refl w.heap.size w)
  go_enter Tryd.func4, Tryd.ntmps4
  go_wp2_with fail
  refine (pfeas_any po pool.length pc pool ao us.length cap us vo ss.length cap2 ss _ (HP.out.below HB_0.out) (HU.out.below HB_0.out) (HA.out.below HB_0.out) HS.out hm).mono ?_
  rintro e5 w5 ⟨rfl, hb5⟩
  have HB_6 : Hid (Below w.heap.size w w5) := HB_0.out.trans (hb5.mono HB_0.out.size)
  clear HB_0
  clear hb5
  generalize hfe : feasOf pool us ss = fe
  have HFE := hid hfe
  clear hfe
  obtain ⟨f1, f2⟩ := fe
  go_wp2_with fail
  refine (handed_any po pool.length pc pool _ (HP.out.below HB_6.out) hpn).mono ?_
  rintro e1 w1 ⟨pg, hpg, rfl, hpk, hb1⟩
  have HB_7 : Hid (Below w.heap.size w w1) := HB_6.out.trans (hb1.mono HB_6.out.size)
  clear HB_6
  have HPK := hid hpk
  clear hb1 hpk
  go_wp2_with fail
  refine (users_any ao us.length cap us _ (HU.out.below HB_7.out) hn HDL.out).mono ?_
  rintro e2 w2 ⟨og, dv, dl, hog, rfl, hcr, how, hb2⟩
  have Rpk_8 := hid (HPK.out.below hb2 HPK.out.lt)
  have HB_8 : Hid (Below w.heap.size w w2) := HB_7.out.trans (hb2.mono HB_7.out.size)
  clear HB_7 HPK
  have HCR := hid hcr
  have HOW := hid how
  clear hb2 hcr how
  obtain ⟨dvo, dvc, rfl⟩ := own_shape HOW.out
  obtain ⟨dvn, hdvn⟩ : ∃ dvn, dvn = dl.length := ⟨_, rfl⟩
  rw [← hdvn] at HOW ⊢
  have HDN := hid hdvn
  clear hdvn
  have HXC := hid (bx_new w2 #[.slice (some ⟨og, 0, none⟩) us.length (us.length + 1), .slice dvo dvn dvc] 37)
  have hal := (Below.refl w2.heap.size w2).alloc (Nat.le_refl _) (.cells #[.slice (some ⟨og, 0, none⟩) us.length (us.length + 1), .slice dvo dvn dvc] 37)
  have Rpk_9 := hid (Rpk_8.out.below hal Rpk_8.out.lt)
  have Rcr_9 := hid (HCR.out.below hal)
  have Row_9 := hid (own_below HOW.out hal)
  have HB_9 : Hid (Below w.heap.size w (w2.alloc (.cells #[.slice (some ⟨og, 0, none⟩) us.length (us.length + 1), .slice dvo dvn dvc] 37))) := HB_8.out.trans (hal.mono HB_8.out.size)
  clear HB_8 Rpk_8 HCR HOW
  clear hal
  go_wp2_with fail
  refine (texts_any vo ss.length cap2 ss _ (HA.out.below HB_9.out) hm).mono ?_
  rintro e3 w3 ⟨tg, htg, rfl, htk, hb3⟩
  have XC_10 := hid (HXC.out.keep hb3)
  have Rpk_10 := hid (Rpk_9.out.below hb3 Rpk_9.out.lt)
  have Rcr_10 := hid (Rcr_9.out.below hb3)
  have Row_10 := hid (own_below Row_9.out hb3)
  have HB_10 : Hid (Below w.heap.size w w3) := HB_9.out.trans (hb3.mono HB_9.out.size)
  clear HB_9 HXC Rpk_9 Rcr_9 Row_9
  have HTK := hid htk
  clear hb3 htk
  have HMX : Hid (∀ i, i < us.length → (ug us i).dem.length + 2 ≤ maxLen) := fun i hi => by have := HDL.out i hi; unfold maxLen; omega
  have ltC := XC_10.out.lt
  have cC0 := XC_10.out.cell 0 _ rfl
  have cC1 := XC_10.out.cell 1 _ rfl
  go_wp2_with fail
  clear ltC cC0 cC1
  refine (feas_any (some ⟨pg, 0, none⟩) pool.length (pool.length + 2) pool (some ⟨og, 0, none⟩) us.length (us.length + 1) us (some ⟨tg, 0, none⟩) ss.length (ss.length + 1) ss _ (Blk.arr Rpk_10.out (by unfold maxLen; omega)) (Rcr_10.out.users (by unfold maxLen; omega) HMX.out) (HTK.out.arr (by unfold maxLen; omega)) HS.out (HT.out.of HB_10.out)).mono ?_
  rintro e4 w4 ⟨rfl, hb4⟩
  have XC_11 := hid (XC_10.out.keep hb4)
  have Rpk_11 := hid (Rpk_10.out.below hb4 Rpk_10.out.lt)
  have Rcr_11 := hid (Rcr_10.out.below hb4)
  have Row_11 := hid (own_below Row_10.out hb4)
  have Rtk_11 := hid (HTK.out.below hb4)
  have HB_11 : Hid (Below w.heap.size w w4) := HB_10.out.trans (hb4.mono HB_10.out.size)
  clear HB_10 XC_10 Rpk_10 Rcr_10 Row_10 HTK
  clear hb4
  rw [HFE.out]
  go_wp2_with fail
  refine (intact_any pg po pool.length pc pool _ Rpk_11.out (HP.out.below HB_11.out) hpn).mono ?_
  rintro e5 w5 ⟨rfl, hb5⟩
  have XC_12 := hid (XC_11.out.keep hb5)
  have Rpk_12 := hid (Rpk_11.out.below hb5 Rpk_11.out.lt)
  have Rcr_12 := hid (Rcr_11.out.below hb5)
  have Row_12 := hid (own_below Row_11.out hb5)
  have Rtk_12 := hid (Rtk_11.out.below hb5)
  have HB_12 : Hid (Below w.heap.size w w5) := HB_11.out.trans (hb5.mono HB_11.out.size)
  clear HB_11 XC_11 Rpk_11 Rcr_11 Row_11 Rtk_11
  clear hb5
  have ltC := XC_12.out.lt
  have cC0 := XC_12.out.cell 0 _ rfl
  have cC1 := XC_12.out.cell 1 _ rfl
  go_wp2_with fail
  clear ltC cC0 cC1
  refine (lwhole_any ao us.length cap us og (.slice dvo dvn dvc) dl _ _ (HU.out.below HB_12.out) Rcr_12.out (by rw [← HDN.out]; exact Row_12.out) hn HDL.out).mono ?_
  rintro e6 w6 ⟨rfl, hb6⟩
  have XC_13 := hid (XC_12.out.keep hb6)
  have Rpk_13 := hid (Rpk_12.out.below hb6 Rpk_12.out.lt)
  have Rcr_13 := hid (Rcr_12.out.below hb6)
  have Row_13 := hid (own_below Row_12.out hb6)
  have Rtk_13 := hid (Rtk_12.out.below hb6)
  have HB_13 : Hid (Below w.heap.size w w6) := HB_12.out.trans (hb6.mono HB_12.out.size)
  clear HB_12 XC_12 Rpk_12 Rcr_12 Row_12 Rtk_12
  clear hb6
  go_wp2_with fail
  refine (same_any tg vo ss.length cap2 ss _ Rtk_13.out (HA.out.below HB_13.out) hm).mono ?_
  rintro e7 w7 ⟨rfl, hb7⟩
  have XC_14 := hid (XC_13.out.keep hb7)
  have Rpk_14 := hid (Rpk_13.out.below hb7 Rpk_13.out.lt)
  have Rcr_14 := hid (Rcr_13.out.below hb7)
  have Row_14 := hid (own_below Row_13.out hb7)
  have Rtk_14 := hid (Rtk_13.out.below hb7)
  have HB_14 : Hid (Below w.heap.size w w7) := HB_13.out.trans (hb7.mono HB_13.out.size)
  clear HB_13 XC_13 Rpk_13 Rcr_13 Row_13 Rtk_13
  clear hb7
  have t0 : (f1 != f1) = false := by simp
  have t1 : (f2 != f2) = false := by simp
  by_cases hk0 : kk < 0
  · go_wp2
    go_ret
    exact ⟨rfl, HB_14.out⟩
  · obtain ⟨K, rfl⟩ : ∃ K : Nat, kk = (K : Int) := ⟨kk.toNat, by omega⟩
    by_cases hkn : us.length ≤ K
    · have i0 : (us.length : Int) ≤ (K : Int) := by omega
      go_wp2
      go_ret
      exact ⟨rfl, HB_14.out⟩
    · have hlt : K < us.length := by omega
      have i0 : (K : Int) < (us.length : Int) := by omega
      have i1 : ¬ ((us.length : Int) ≤ (K : Int)) := by omega
      obtain ⟨ub, uo, da, dn, dc, rfl, hbl, a0, a1, a2, hd⟩ := (HU.out.below HB_14.out).get hlt
      have HD := hid hd
      clear hd
      go_wp2_with fail
      refine (puseful_any da dn dc (ug us K) vo ss.length cap2 ss _ HD.out (HA.out.below HB_14.out) HS.out hm).mono ?_
      rintro e8 w8 ⟨rfl, hb8⟩
      have XC_15 := hid (XC_14.out.keep hb8)
      have Rpk_15 := hid (Rpk_14.out.below hb8 Rpk_14.out.lt)
      have Rcr_15 := hid (Rcr_14.out.below hb8)
      have Row_15 := hid (own_below Row_14.out hb8)
      have Rtk_15 := hid (Rtk_14.out.below hb8)
      have HB_15 : Hid (Below w.heap.size w w8) := HB_14.out.trans (hb8.mono HB_14.out.size)
      clear HB_14 XC_14 Rpk_14 Rcr_14 Row_14 Rtk_14
      clear hb8 a0 a1 a2 hbl HD
      generalize hue : usefulOf (ug us K) ss = ue
      have HUE := hid hue
      clear hue
      obtain ⟨u1, u2⟩ := ue
      obtain ⟨d, c0, c1, c2, hbd, _⟩ := Rcr_15.out.get hlt
      have col := Rcr_15.out.1.lt
      unfold hs at c0
      have HBD := hid hbd
      clear hbd
      have i2 : (K : Int) < ((us.length + 1 : Nat) : Int) := by omega
      have ltC := XC_15.out.lt
      have cC0 := XC_15.out.cell 0 _ rfl
      have cC1 := XC_15.out.cell 1 _ rfl
      go_wp2_with fail
      clear ltC cC0 cC1
      refine (useful_any (some ⟨d, 0, none⟩) (ug us K).dem.length ((ug us K).dem.length + 2) (ug us K) (some ⟨tg, 0, none⟩) ss.length (ss.length + 1) ss _ (Blk.arr HBD.out (HMX.out K hlt)) (Rtk_15.out.arr (by unfold maxLen; omega)) HS.out (HT.out.of HB_15.out)).mono ?_
      rintro e9 w9 ⟨rfl, hb9⟩
      have XC_16 := hid (XC_15.out.keep hb9)
      have Rpk_16 := hid (Rpk_15.out.below hb9 Rpk_15.out.lt)
      have Rcr_16 := hid (Rcr_15.out.below hb9)
      have Row_16 := hid (own_below Row_15.out hb9)
      have Rtk_16 := hid (Rtk_15.out.below hb9)
      have HB_16 : Hid (Below w.heap.size w w9) := HB_15.out.trans (hb9.mono HB_15.out.size)
      clear HB_15 XC_15 Rpk_15 Rcr_15 Row_15 Rtk_15
      clear hb9 c0 c1 c2 col HBD
      rw [HUE.out]
      have ltC := XC_16.out.lt
      have cC0 := XC_16.out.cell 0 _ rfl
      have cC1 := XC_16.out.cell 1 _ rfl
      go_wp2_with fail
      clear ltC cC0 cC1
      refine (lwhole_any (some ⟨ub, uo, none⟩) us.length cap us og (.slice dvo dvn dvc) dl _ _ (HU.out.below HB_16.out) Rcr_16.out (by rw [← HDN.out]; exact Row_16.out) hn HDL.out).mono ?_
      rintro e10 w10 ⟨rfl, hb10⟩
      have XC_17 := hid (XC_16.out.keep hb10)
      have Rpk_17 := hid (Rpk_16.out.below hb10 Rpk_16.out.lt)
      have Rcr_17 := hid (Rcr_16.out.below hb10)
      have Row_17 := hid (own_below Row_16.out hb10)
      have Rtk_17 := hid (Rtk_16.out.below hb10)
      have HB_17 : Hid (Below w.heap.size w w10) := HB_16.out.trans (hb10.mono HB_16.out.size)
      clear HB_16 XC_16 Rpk_16 Rcr_16 Row_16 Rtk_16
      clear hb10
      go_wp2_with fail
      refine (same_any tg vo ss.length cap2 ss _ Rtk_17.out (HA.out.below HB_17.out) hm).mono ?_
      rintro e11 w11 ⟨rfl, hb11⟩
      have XC_18 := hid (XC_17.out.keep hb11)
      have Rpk_18 := hid (Rpk_17.out.below hb11 Rpk_17.out.lt)
      have Rcr_18 := hid (Rcr_17.out.below hb11)
      have Row_18 := hid (own_below Row_17.out hb11)
      have Rtk_18 := hid (Rtk_17.out.below hb11)
      have HB_18 : Hid (Below w.heap.size w w11) := HB_17.out.trans (hb11.mono HB_17.out.size)
      clear HB_17 XC_17 Rpk_17 Rcr_17 Row_17 Rtk_17
      clear hb11
      have t2 : (u1 == u1) = true := by simp
      have t3 : (u2 == u2) = true := by simp
      go_wp2
      go_ret
      exact ⟨rfl, HB_18.out⟩

end Go.Proofs.YtigokanoflkinaaDoor
