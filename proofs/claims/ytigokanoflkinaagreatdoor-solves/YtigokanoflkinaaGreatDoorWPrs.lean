/- WPrsA, WPrsB, WPrsC, WPrsD, joined. -/
import Derived.Test.YtigokanoflkinaaGreatDoorWDiv
import Derived.Test.YtigokanoflkinaaGreatDoorWTxt
import Derived.Test.YtigokanoflkinaaGreatDoorPure
import Derived.Test.YtigokanoflkinaaGreatDoorWRat
import Derived.Deep.RegionHeld3
/- ratio.slashIn, areLowest. -/
namespace Go.Proofs.YtigokanoflkinaaGreatDoor
set_option linter.unusedSimpArgs false
set_option linter.unusedVariables false
open Go.RowKit Por

theorem takeWhile_of {l : List UInt8} {k : Nat} (hk : k ≤ l.length) (h1 : (l.take k).all (fun c => c != 47) = true) (h2 : k = l.length ∨ l[k]? = some 47) : slashAt l = k := by
  unfold slashAt
  have : l.takeWhile (fun c => c != 47) = l.take k := by
    induction l generalizing k with
    | nil => simp
    | cons c l ih =>
      cases k with
      | zero =>
        rcases h2 with h2 | h2
        · simp at h2
        · simp at h2; subst h2; rfl
      | succ k =>
        rw [List.take_succ_cons, List.all_cons, Bool.and_eq_true] at h1
        rw [List.takeWhile_cons, if_pos h1.1, List.take_succ_cons, ih (by simpa using hk) h1.2 (by simpa using h2)]
  rw [this, List.length_take]; omega

set_option maxHeartbeats 400000 in
theorem slashIn_any (s : ByteArray) (w : World) (hs : s.size ≤ 100000) :
    Calls Tryz.prog 147 #[.string s] w fun e w' => e = .returned (.int .i64 (slashAt s.data.toList : Nat)) ∧ w' = w := by
  have hsl : s.data.toList.length = s.size := by simp
  go_enter Tryz.func147, Tryz.ntmps147
  go_wp2
  go_loop [3] (fun i => ∃ k : Nat, k ≤ s.size ∧ i = .int .i64 k ∧ Hid ((s.data.toList.take k).all (fun c => c != 47) = true)) (fun i => s.size - (intOf i).toNat)
  case atStart => exact ⟨0, Nat.zero_le _, rfl, rfl⟩
  case round =>
    obtain ⟨k, hk, rfl, hd⟩ := hrel
    by_cases hlt : k < s.size
    · have HS := hid (take_snoc s k hlt)
      by_cases hc : s[k].toNat = 47
      · have hA : ((s[k].toNat : Int) == 47) = true := by rw [beq_iff_eq]; omega
        have E : Hid (slashAt s.data.toList = k) := takeWhile_of (by omega) hd.out (.inr (by
          rw [List.getElem?_eq_getElem (by omega)]
          congr 1
          apply UInt8.toNat_inj.1
          exact hc))
        clear hc
        go_wp2
        go_ret
        exact ⟨by rw [E.out]; rfl, rfl⟩
      · have hA : ((s[k].toNat : Int) == 47) = false := by rw [beq_eq_false_iff_ne]; omega
        have HD : Hid ((s.data.toList.take (k + 1)).all (fun c => c != 47) = true) := by
          show _ = _
          rw [HS.out, List.all_append, hd.out]
          have : (s[k] != 47) = true := by rw [bne_iff_ne]; intro e; apply hc; rw [e]; rfl
          simp [this]
        clear hc
        go_wp2
        exact ⟨⟨k + 1, by omega, by go_num, HD.out⟩, by simp [intOf]; omega⟩
    · obtain rfl : k = s.size := by omega
      have E : Hid (slashAt s.data.toList = s.size) := takeWhile_of (by omega) hd.out (.inl hsl.symm)
      go_wp2
      go_ret
      exact ⟨by rw [E.out]; rfl, rfl⟩
end Go.Proofs.YtigokanoflkinaaGreatDoor

/- ratio.areLowest: of any two numbers. (Laid by mkprs.py.) -/
namespace Go.Proofs.YtigokanoflkinaaGreatDoor
set_option linter.unusedSimpArgs false
set_option linter.unusedVariables false
open Go.RowKit Por

set_option maxHeartbeats 2000000 in
set_option maxRecDepth 20000 in
theorem low_no (ao bo : Option Addr) (n capa m capb : Nat) (x y : Nat) (w : World) (h1 : Row w ao n capa (limbs x)) (h2 : Row w bo m capb (limbs y)) (b1 : n ≤ 30000) (b2 : m ≤ 30000) (hy : y ≤ 1) :
    Calls Tryz.prog 150 #[.agg #[.slice ao n capa], .agg #[.slice bo m capb]] w fun e w' => e = .returned (.bool (lowB x y)) ∧ Below w.heap.size w w' := by
  obtain ⟨C, hC0, hc⟩ : ∃ C : Int, C ≤ 0 ∧ Hid (cmp3 (y : Int) ((1 : Nat) : Int) = C) := ⟨_, by unfold cmp3; split <;> (try split) <;> omega, rfl⟩
  have he : Hid (lowB x y = false) := by show _ = _; unfold lowB; rw [decide_eq_false (by omega)]; rfl
  clear hy
  obtain ⟨c1, c2, c5⟩ := boxes2 w #[.slice ao n capa] #[.slice bo m capb] 88 88
  have R0_0 := hid (h1.below c5)
  have R1_0 := hid (h2.below c5)
  have len0 := h1.len
  have len1 := h2.len
  have XA_0 := hid c1
  have XB_0 := hid c2
  have HB_0 := hid c5
  clear h1 h2 c1 c2 c5
  go_enter Tryz.func150, Tryz.ntmps150
  go_wp2_with fail
  refine (one_any _).mono ?_
  rintro e0 w0 ⟨v0, rfl, ⟨oo, on, oc, rfl, hr0⟩, hb0⟩
  have XA_1 := hid (XA_0.out.keep hb0)
  have XB_1 := hid (XB_0.out.keep hb0)
  have R0_1 := hid (R0_0.out.below hb0)
  have R1_1 := hid (R1_0.out.below hb0)
  have HB_1 : Hid (Below w.heap.size w w0) := HB_0.out.trans (hb0.mono HB_0.out.size)
  have ltA := XA_1.out.lt
  have cA0 := XA_1.out.cell 0 _ rfl
  have ltB := XB_1.out.lt
  have cB0 := XB_1.out.cell 0 _ rfl
  have Ro_1 := hid hr0
  have leno : on = 1 := hr0.len.symm.trans (by rw [limbs_one]; rfl)
  have leno2 : on ≤ 1 := by omega
  clear hb0 hr0 leno
  have YA_1 := hid (bx_past XA_1.out (.cells #[.slice oo on oc] 88))
  have YB_1 := hid (bx_past XB_1.out (.cells #[.slice oo on oc] 88))
  have Yo_1 := hid (bx_new w0 #[.slice oo on oc] 88)
  have Q0_1 := hid (R0_1.out.alloc (.cells #[.slice oo on oc] 88))
  have Q1_1 := hid (R1_1.out.alloc (.cells #[.slice oo on oc] 88))
  have Qo_1 := hid (Ro_1.out.alloc (.cells #[.slice oo on oc] 88))
  have HC_1 : Hid (Below w.heap.size w (w0.alloc (.cells #[.slice oo on oc] 88))) := HB_1.out.alloc HB_1.out.size (.cells #[.slice oo on oc] 88)
  go_wp2_with fail
  refine (compare_any bo oo m capb on oc y 1 _ Q1_1.out Qo_1.out (by omega) (by omega)).mono ?_
  rintro e1 w1 ⟨rfl, hb1⟩
  have XA_2 := hid (YA_1.out.keep hb1)
  have XB_2 := hid (YB_1.out.keep hb1)
  have Xo_2 := hid (Yo_1.out.keep hb1)
  have R0_2 := hid (Q0_1.out.below hb1)
  have R1_2 := hid (Q1_1.out.below hb1)
  have Ro_2 := hid (Qo_1.out.below hb1)
  have HB_2 : Hid (Below w.heap.size w w1) := HC_1.out.trans (hb1.mono HC_1.out.size)
  clear ltA cA0 ltB cB0
  have ltA := XA_2.out.lt
  have cA0 := XA_2.out.cell 0 _ rfl
  have ltB := XB_2.out.lt
  have cB0 := XB_2.out.cell 0 _ rfl
  have lto := Xo_2.out.lt
  have co0 := Xo_2.out.cell 0 _ rfl
  rw [hc.out]
  clear hb1
  go_wp2
  go_ret
  exact ⟨by rw [he.out]; rfl, HB_2.out⟩

set_option maxHeartbeats 2000000 in
set_option maxRecDepth 20000 in
theorem low_yes (ao bo : Option Addr) (n capa m capb : Nat) (x y : Nat) (w : World) (h1 : Row w ao n capa (limbs x)) (h2 : Row w bo m capb (limbs y)) (b1 : n ≤ 30000) (b2 : m ≤ 30000) (hy : 1 < y) :
    Calls Tryz.prog 150 #[.agg #[.slice ao n capa], .agg #[.slice bo m capb]] w fun e w' => e = .returned (.bool (lowB x y)) ∧ Below w.heap.size w w' := by
  have hc : Hid (cmp3 (y : Int) ((1 : Nat) : Int) = 1) := by show _ = _; unfold cmp3; rw [if_neg (by omega), if_neg (by omega)]
  obtain ⟨D, hd⟩ : ∃ D : Int, Hid (cmp3 (Nat.gcd x y : Int) ((1 : Nat) : Int) = D) := ⟨_, rfl⟩
  have hy0 : 0 < y := by omega
  have he : Hid (lowB x y = (D == 0)) := by
    show _ = _
    unfold lowB
    rw [decide_eq_true hy, ← hd.out, Bool.true_and]
    have hp : 0 < Nat.gcd x y := Nat.gcd_pos_of_pos_right x hy0
    rw [Bool.eq_iff_iff, beq_iff_eq, beq_iff_eq]
    unfold cmp3
    split <;> (try split) <;> omega
  clear hy
  obtain ⟨c1, c2, c5⟩ := boxes2 w #[.slice ao n capa] #[.slice bo m capb] 88 88
  have R0_0 := hid (h1.below c5)
  have R1_0 := hid (h2.below c5)
  have len0 := h1.len
  have len1 := h2.len
  have XA_0 := hid c1
  have XB_0 := hid c2
  have HB_0 := hid c5
  clear h1 h2 c1 c2 c5
  go_enter Tryz.func150, Tryz.ntmps150
  go_wp2_with fail
  refine (one_any _).mono ?_
  rintro e0 w0 ⟨v0, rfl, ⟨oo, on, oc, rfl, hr0⟩, hb0⟩
  have XA_1 := hid (XA_0.out.keep hb0)
  have XB_1 := hid (XB_0.out.keep hb0)
  have R0_1 := hid (R0_0.out.below hb0)
  have R1_1 := hid (R1_0.out.below hb0)
  have HB_1 : Hid (Below w.heap.size w w0) := HB_0.out.trans (hb0.mono HB_0.out.size)
  have ltA := XA_1.out.lt
  have cA0 := XA_1.out.cell 0 _ rfl
  have ltB := XB_1.out.lt
  have cB0 := XB_1.out.cell 0 _ rfl
  have Ro_1 := hid hr0
  have leno : on = 1 := hr0.len.symm.trans (by rw [limbs_one]; rfl)
  have leno2 : on ≤ 1 := by omega
  clear hb0 hr0 leno
  have YA_1 := hid (bx_past XA_1.out (.cells #[.slice oo on oc] 88))
  have YB_1 := hid (bx_past XB_1.out (.cells #[.slice oo on oc] 88))
  have Yo_1 := hid (bx_new w0 #[.slice oo on oc] 88)
  have Q0_1 := hid (R0_1.out.alloc (.cells #[.slice oo on oc] 88))
  have Q1_1 := hid (R1_1.out.alloc (.cells #[.slice oo on oc] 88))
  have Qo_1 := hid (Ro_1.out.alloc (.cells #[.slice oo on oc] 88))
  have HC_1 : Hid (Below w.heap.size w (w0.alloc (.cells #[.slice oo on oc] 88))) := HB_1.out.alloc HB_1.out.size (.cells #[.slice oo on oc] 88)
  go_wp2_with fail
  refine (compare_any bo oo m capb on oc y 1 _ Q1_1.out Qo_1.out (by omega) (by omega)).mono ?_
  rintro e1 w1 ⟨rfl, hb1⟩
  have XA_2 := hid (YA_1.out.keep hb1)
  have XB_2 := hid (YB_1.out.keep hb1)
  have Xo_2 := hid (Yo_1.out.keep hb1)
  have R0_2 := hid (Q0_1.out.below hb1)
  have R1_2 := hid (Q1_1.out.below hb1)
  have Ro_2 := hid (Qo_1.out.below hb1)
  have HB_2 : Hid (Below w.heap.size w w1) := HC_1.out.trans (hb1.mono HC_1.out.size)
  clear ltA cA0 ltB cB0
  have ltA := XA_2.out.lt
  have cA0 := XA_2.out.cell 0 _ rfl
  have ltB := XB_2.out.lt
  have cB0 := XB_2.out.cell 0 _ rfl
  have lto := Xo_2.out.lt
  have co0 := Xo_2.out.cell 0 _ rfl
  rw [hc.out]
  clear hb1
  go_wp2_with fail
  refine (gcd_any ao bo n capa m capb x y _ R0_2.out R1_2.out (by omega) (by omega)).mono ?_
  rintro e2 w2 ⟨v2, rfl, ⟨go, gn, gc, rfl, hr2⟩, hb2⟩
  have XA_3 := hid (XA_2.out.keep hb2)
  have XB_3 := hid (XB_2.out.keep hb2)
  have Xo_3 := hid (Xo_2.out.keep hb2)
  have R0_3 := hid (R0_2.out.below hb2)
  have R1_3 := hid (R1_2.out.below hb2)
  have Ro_3 := hid (Ro_2.out.below hb2)
  have HB_3 : Hid (Below w.heap.size w w2) := HB_2.out.trans (hb2.mono HB_2.out.size)
  clear ltA cA0 ltB cB0 lto co0
  have ltA := XA_3.out.lt
  have cA0 := XA_3.out.cell 0 _ rfl
  have ltB := XB_3.out.lt
  have cB0 := XB_3.out.cell 0 _ rfl
  have lto := Xo_3.out.lt
  have co0 := Xo_3.out.cell 0 _ rfl
  have Rg_3 := hid hr2
  have leng : gn ≤ 30000 := by have h5 := hr2.len; have h6 := @len_mono (Nat.gcd x y) y (Nat.gcd_le_right x hy0); omega
  clear hb2 hr2
  have YA_3 := hid (bx_past XA_3.out (.cells #[.slice go gn gc] 88))
  have YB_3 := hid (bx_past XB_3.out (.cells #[.slice go gn gc] 88))
  have Yo_3 := hid (bx_past Xo_3.out (.cells #[.slice go gn gc] 88))
  have Yg_3 := hid (bx_new w2 #[.slice go gn gc] 88)
  have Q0_3 := hid (R0_3.out.alloc (.cells #[.slice go gn gc] 88))
  have Q1_3 := hid (R1_3.out.alloc (.cells #[.slice go gn gc] 88))
  have Qo_3 := hid (Ro_3.out.alloc (.cells #[.slice go gn gc] 88))
  have Qg_3 := hid (Rg_3.out.alloc (.cells #[.slice go gn gc] 88))
  have HC_3 : Hid (Below w.heap.size w (w2.alloc (.cells #[.slice go gn gc] 88))) := HB_3.out.alloc HB_3.out.size (.cells #[.slice go gn gc] 88)
  go_wp2_with fail
  refine (compare_any go oo gn gc on oc (Nat.gcd x y) 1 _ Qg_3.out Qo_3.out (by omega) (by omega)).mono ?_
  rintro e3 w3 ⟨rfl, hb3⟩
  have XA_4 := hid (YA_3.out.keep hb3)
  have XB_4 := hid (YB_3.out.keep hb3)
  have Xo_4 := hid (Yo_3.out.keep hb3)
  have Xg_4 := hid (Yg_3.out.keep hb3)
  have R0_4 := hid (Q0_3.out.below hb3)
  have R1_4 := hid (Q1_3.out.below hb3)
  have Ro_4 := hid (Qo_3.out.below hb3)
  have Rg_4 := hid (Qg_3.out.below hb3)
  have HB_4 : Hid (Below w.heap.size w w3) := HC_3.out.trans (hb3.mono HC_3.out.size)
  clear ltA cA0 ltB cB0 lto co0
  have ltA := XA_4.out.lt
  have cA0 := XA_4.out.cell 0 _ rfl
  have ltB := XB_4.out.lt
  have cB0 := XB_4.out.cell 0 _ rfl
  have lto := Xo_4.out.lt
  have co0 := Xo_4.out.cell 0 _ rfl
  have ltg := Xg_4.out.lt
  have cg0 := Xg_4.out.cell 0 _ rfl
  rw [hd.out]
  clear hb3
  go_wp2
  go_ret
  exact ⟨by rw [he.out]; rfl, HB_4.out⟩

theorem areLowest_any (ao bo : Option Addr) (n capa m capb : Nat) (x y : Nat) (w : World) (h1 : Row w ao n capa (limbs x)) (h2 : Row w bo m capb (limbs y)) (b1 : n ≤ 30000) (b2 : m ≤ 30000) :
    Calls Tryz.prog 150 #[.agg #[.slice ao n capa], .agg #[.slice bo m capb]] w fun e w' => e = .returned (.bool (lowB x y)) ∧ Below w.heap.size w w' := by
  by_cases hy : y ≤ 1
  · exact low_no ao bo n capa m capb x y w h1 h2 b1 b2 hy
  · exact low_yes ao bo n capa m capb x y w h1 h2 b1 b2 (by omega)
end Go.Proofs.YtigokanoflkinaaGreatDoor

/- ratio.Parse: of any text. (Laid by mkprs.py.) -/
namespace Go.Proofs.YtigokanoflkinaaGreatDoor
set_option linter.unusedSimpArgs false
set_option linter.unusedVariables false
open Go.RowKit Por

theorem ext_tail (s : ByteArray) : (s.extract 1 s.size).data.toList = s.data.toList.tail := by
  rw [Go.Lib.extract_data, List.take_of_length_le (by simp), List.drop_one]
theorem ext_take (s : ByteArray) (k : Nat) : (s.extract 0 k).data.toList = s.data.toList.take k := by
  rw [Go.Lib.extract_data, List.drop_zero, Nat.sub_zero]
theorem ext_drop (s : ByteArray) (k : Nat) : (s.extract k s.size).data.toList = s.data.toList.drop k := by
  rw [Go.Lib.extract_data, List.take_of_length_le (by simp)]

/-- what ratio.Parse answers -/
def ParseEnd (w w' : World) (e : Ending) (o : Option Rat) : Prop :=
  match o with
  | none => e = .returned (.tuple #[.agg #[.bool false, .slice none 0 0, .slice none 0 0], .bool false]) ∧ Below w.heap.size w w'
  | some q => ∃ v, e = .returned (.tuple #[v, .bool true]) ∧ Frac w' v q ∧ Below w.heap.size w w'

theorem limbs_dv {l : List UInt8} (h : wholeB l = true) : (limbs (dv l)).length ≤ l.length := by
  refine len_limbs_le (Nat.lt_of_lt_of_le (dv_lt l (whole_all h)) ?_)
  exact Nat.pow_le_pow_left (by omega) _

set_option maxHeartbeats 2000000 in
set_option maxRecDepth 20000 in
theorem parse1_true (s t : ByteArray) (K : Nat) (w : World) (ht : t = s.extract 1 s.size) (hK : slashAt t.data.toList = K) (hts : t.size ≤ 300) (hKt : K ≤ t.size) (hs : s.size ≤ 300) (h0 : 0 < s.size) (hm : ((s[0].toNat : Int) == 45) = true) (hw : Hid (wholeB (t.data.toList.take K) = false)) :
    Calls Tryz.prog 96 #[.string s] w fun e w' => e = .returned (.tuple #[.agg #[.bool false, .slice none 0 0, .slice none 0 0], .bool false]) ∧ Below w.heap.size w w' := by
  have XR_0 := hid (bx_new w #[.bool false, .slice none 0 0, .slice none 0 0] 90)
  have HB_0 := hid ((Below.refl _ w).alloc (Nat.le_refl _) (.cells #[.bool false, .slice none 0 0, .slice none 0 0] 90))
  have HT := hid ht
  have HK := hid hK
  have HS := hid hts
  clear ht hK
  have hut : (t.extract 0 K).data.toList = t.data.toList.take K := ext_take t K
  have HUT := hid hut
  clear hut
  have hus : (t.extract 0 K).size ≤ 300 := by rw [ByteArray.size_extract]; omega
  go_enter Tryz.func96, Tryz.ntmps96
  go_wp2_with fail
  rw [← HT.out]
  refine (slashIn_any t _ (by omega)).mono ?_
  rintro e wz ⟨rfl, rfl⟩
  rw [HK.out]
  have ltR := XR_0.out.lt
  have cR0 := XR_0.out.cell 0 _ rfl
  have zR0 := XR_0.out.frozen 0
  have cR1 := XR_0.out.cell 1 _ rfl
  have zR1 := XR_0.out.frozen 1
  have cR2 := XR_0.out.cell 2 _ rfl
  have zR2 := XR_0.out.frozen 2
  go_wp2_with fail
  refine (parse_no (t.extract 0 K) _ (by omega) (by rw [HUT.out]; exact hw.out)).mono ?_
  rintro e0 w0 ⟨rfl, hb0⟩
  have XR_1 := hid (XR_0.out.keep hb0)
  have HB_1 : Hid (Below w.heap.size w w0) := HB_0.out.trans (hb0.mono HB_0.out.size)
  clear ltR cR0 zR0 cR1 zR1 cR2 zR2
  have ltR := XR_1.out.lt
  have cR0 := XR_1.out.cell 0 _ rfl
  have zR0 := XR_1.out.frozen 0
  have cR1 := XR_1.out.cell 1 _ rfl
  have zR1 := XR_1.out.frozen 1
  have cR2 := XR_1.out.cell 2 _ rfl
  have zR2 := XR_1.out.frozen 2
  clear hb0
  have YR_1 := hid (bx_past XR_1.out (.cells #[.slice none 0 0] 88))
  have Yu_1 := hid (bx_new w0 #[.slice none 0 0] 88)
  have HC_1 : Hid (Below w.heap.size w (w0.alloc (.cells #[.slice none 0 0] 88))) := HB_1.out.alloc HB_1.out.size (.cells #[.slice none 0 0] 88)
  go_wp2
  have Z := bx_past (XR_1.out.put3 (.bool false) (.slice none 0 0) (.slice none 0 0)) (.cells #[.slice none 0 0] 88)
  have z0 := Z.cell 0 _ rfl
  have z1 := Z.cell 1 _ rfl
  have z2 := Z.cell 2 _ rfl
  unfold wput3 at z0 z1 z2
  have BB := below_put3 HB_1.out (Nat.le_refl _) (.bool false) (.slice none 0 0) (.slice none 0 0)
  exact bodyPost_ret (v := .tuple #[.agg #[.bool false, .slice none 0 0, .slice none 0 0], .bool false]) (by simp [results, Tryz.results96, go_sem, z0, z1, z2]) rfl ⟨rfl, BB.alloc BB.size _⟩

set_option maxHeartbeats 2000000 in
set_option maxRecDepth 20000 in
theorem parse2_true (s t : ByteArray) (K : Nat) (w : World) (ht : t = s.extract 1 s.size) (hK : slashAt t.data.toList = K) (hts : t.size ≤ 300) (hKt : K ≤ t.size) (hs : s.size ≤ 300) (h0 : 0 < s.size) (hm : ((s[0].toNat : Int) == 45) = true) (X : Nat) (hw : Hid (wholeB (t.data.toList.take K) = true)) (hX : Hid (dv (t.data.toList.take K) = X)) (hz : isZ X = true) :
    Calls Tryz.prog 96 #[.string s] w fun e w' => e = .returned (.tuple #[.agg #[.bool false, .slice none 0 0, .slice none 0 0], .bool false]) ∧ Below w.heap.size w w' := by
  have XR_0 := hid (bx_new w #[.bool false, .slice none 0 0, .slice none 0 0] 90)
  have HB_0 := hid ((Below.refl _ w).alloc (Nat.le_refl _) (.cells #[.bool false, .slice none 0 0, .slice none 0 0] 90))
  have HT := hid ht
  have HK := hid hK
  have HS := hid hts
  clear ht hK
  have hut : (t.extract 0 K).data.toList = t.data.toList.take K := ext_take t K
  have HUT := hid hut
  clear hut
  have hus : (t.extract 0 K).size ≤ 300 := by rw [ByteArray.size_extract]; omega
  go_enter Tryz.func96, Tryz.ntmps96
  go_wp2_with fail
  rw [← HT.out]
  refine (slashIn_any t _ (by omega)).mono ?_
  rintro e wz ⟨rfl, rfl⟩
  rw [HK.out]
  have ltR := XR_0.out.lt
  have cR0 := XR_0.out.cell 0 _ rfl
  have zR0 := XR_0.out.frozen 0
  have cR1 := XR_0.out.cell 1 _ rfl
  have zR1 := XR_0.out.frozen 1
  have cR2 := XR_0.out.cell 2 _ rfl
  have zR2 := XR_0.out.frozen 2
  go_wp2_with fail
  refine (parse_yes (t.extract 0 K) _ (by omega) (by rw [HUT.out]; exact hw.out)).mono ?_
  rintro e0 w0 ⟨v0, rfl, ⟨uo, un, uc, rfl, hr0⟩, hb0⟩
  have XR_1 := hid (XR_0.out.keep hb0)
  have HB_1 : Hid (Below w.heap.size w w0) := HB_0.out.trans (hb0.mono HB_0.out.size)
  clear ltR cR0 zR0 cR1 zR1 cR2 zR2
  have ltR := XR_1.out.lt
  have cR0 := XR_1.out.cell 0 _ rfl
  have zR0 := XR_1.out.frozen 0
  have cR1 := XR_1.out.cell 1 _ rfl
  have zR1 := XR_1.out.frozen 1
  have cR2 := XR_1.out.cell 2 _ rfl
  have zR2 := XR_1.out.frozen 2
  rw [HUT.out, hX.out] at hr0
  have Ru_1 := hid hr0
  have lenu : un ≤ 300 := by have h5 := hr0.len; have h6 := limbs_dv hw.out; rw [hX.out] at h6; have h7 : (t.data.toList.take K).length ≤ K := List.length_take_le _ _; omega
  clear hb0 hr0
  have YR_1 := hid (bx_past XR_1.out (.cells #[.slice uo un uc] 88))
  have Yu_1 := hid (bx_new w0 #[.slice uo un uc] 88)
  have Qu_1 := hid (Ru_1.out.alloc (.cells #[.slice uo un uc] 88))
  have HC_1 : Hid (Below w.heap.size w (w0.alloc (.cells #[.slice uo un uc] 88))) := HB_1.out.alloc HB_1.out.size (.cells #[.slice uo un uc] 88)
  go_wp2_with fail
  refine (isZero_any uo un uc X _ Qu_1.out (by omega)).mono ?_
  rintro e1 w1 ⟨rfl, hb1⟩
  have XR_2 := hid (YR_1.out.keep hb1)
  have Xu_2 := hid (Yu_1.out.keep hb1)
  have Ru_2 := hid (Qu_1.out.below hb1)
  have HB_2 : Hid (Below w.heap.size w w1) := HC_1.out.trans (hb1.mono HC_1.out.size)
  clear ltR cR0 zR0 cR1 zR1 cR2 zR2
  have ltR := XR_2.out.lt
  have cR0 := XR_2.out.cell 0 _ rfl
  have zR0 := XR_2.out.frozen 0
  have cR1 := XR_2.out.cell 1 _ rfl
  have zR1 := XR_2.out.frozen 1
  have cR2 := XR_2.out.cell 2 _ rfl
  have zR2 := XR_2.out.frozen 2
  have ltu := Xu_2.out.lt
  have cu0 := Xu_2.out.cell 0 _ rfl
  clear hb1
  go_wp2
  have Z := XR_2.out.put3 (.bool false) (.slice none 0 0) (.slice none 0 0)
  have z0 := Z.cell 0 _ rfl
  have z1 := Z.cell 1 _ rfl
  have z2 := Z.cell 2 _ rfl
  unfold wput3 at z0 z1 z2
  have BB := below_put3 HB_2.out (Nat.le_refl _) (.bool false) (.slice none 0 0) (.slice none 0 0)
  exact bodyPost_ret (v := .tuple #[.agg #[.bool false, .slice none 0 0, .slice none 0 0], .bool false]) (by simp [results, Tryz.results96, go_sem, z0, z1, z2]) rfl ⟨rfl, BB⟩

set_option maxHeartbeats 2000000 in
set_option maxRecDepth 20000 in
theorem parse4_true (s t : ByteArray) (K : Nat) (w : World) (ht : t = s.extract 1 s.size) (hK : slashAt t.data.toList = K) (hts : t.size ≤ 300) (hKt : K ≤ t.size) (hs : s.size ≤ 300) (h0 : 0 < s.size) (hm : ((s[0].toNat : Int) == 45) = true) (X : Nat) (hw : Hid (wholeB (t.data.toList.take K) = true)) (hX : Hid (dv (t.data.toList.take K) = X)) (hz : isZ X = false) (hne : ((K : Int) == (t.size : Int)) = false) (hlt : K < t.size) (hv : Hid (wholeB (t.data.toList.drop (K + 1)) = false)) :
    Calls Tryz.prog 96 #[.string s] w fun e w' => e = .returned (.tuple #[.agg #[.bool false, .slice none 0 0, .slice none 0 0], .bool false]) ∧ Below w.heap.size w w' := by
  have hdt : (t.extract (K + 1) t.size).data.toList = t.data.toList.drop (K + 1) := ext_drop t (K + 1)
  have HDT := hid hdt
  have hds : (t.extract (K + 1) t.size).size ≤ 300 := by rw [ByteArray.size_extract]; omega
  clear hdt
  have XR_0 := hid (bx_new w #[.bool false, .slice none 0 0, .slice none 0 0] 90)
  have HB_0 := hid ((Below.refl _ w).alloc (Nat.le_refl _) (.cells #[.bool false, .slice none 0 0, .slice none 0 0] 90))
  have HT := hid ht
  have HK := hid hK
  have HS := hid hts
  clear ht hK
  have hut : (t.extract 0 K).data.toList = t.data.toList.take K := ext_take t K
  have HUT := hid hut
  clear hut
  have hus : (t.extract 0 K).size ≤ 300 := by rw [ByteArray.size_extract]; omega
  go_enter Tryz.func96, Tryz.ntmps96
  go_wp2_with fail
  rw [← HT.out]
  refine (slashIn_any t _ (by omega)).mono ?_
  rintro e wz ⟨rfl, rfl⟩
  rw [HK.out]
  have ltR := XR_0.out.lt
  have cR0 := XR_0.out.cell 0 _ rfl
  have zR0 := XR_0.out.frozen 0
  have cR1 := XR_0.out.cell 1 _ rfl
  have zR1 := XR_0.out.frozen 1
  have cR2 := XR_0.out.cell 2 _ rfl
  have zR2 := XR_0.out.frozen 2
  go_wp2_with fail
  refine (parse_yes (t.extract 0 K) _ (by omega) (by rw [HUT.out]; exact hw.out)).mono ?_
  rintro e0 w0 ⟨v0, rfl, ⟨uo, un, uc, rfl, hr0⟩, hb0⟩
  have XR_1 := hid (XR_0.out.keep hb0)
  have HB_1 : Hid (Below w.heap.size w w0) := HB_0.out.trans (hb0.mono HB_0.out.size)
  clear ltR cR0 zR0 cR1 zR1 cR2 zR2
  have ltR := XR_1.out.lt
  have cR0 := XR_1.out.cell 0 _ rfl
  have zR0 := XR_1.out.frozen 0
  have cR1 := XR_1.out.cell 1 _ rfl
  have zR1 := XR_1.out.frozen 1
  have cR2 := XR_1.out.cell 2 _ rfl
  have zR2 := XR_1.out.frozen 2
  rw [HUT.out, hX.out] at hr0
  have Ru_1 := hid hr0
  have lenu : un ≤ 300 := by have h5 := hr0.len; have h6 := limbs_dv hw.out; rw [hX.out] at h6; have h7 : (t.data.toList.take K).length ≤ K := List.length_take_le _ _; omega
  clear hb0 hr0
  have YR_1 := hid (bx_past XR_1.out (.cells #[.slice uo un uc] 88))
  have Yu_1 := hid (bx_new w0 #[.slice uo un uc] 88)
  have Qu_1 := hid (Ru_1.out.alloc (.cells #[.slice uo un uc] 88))
  have HC_1 : Hid (Below w.heap.size w (w0.alloc (.cells #[.slice uo un uc] 88))) := HB_1.out.alloc HB_1.out.size (.cells #[.slice uo un uc] 88)
  go_wp2_with fail
  refine (isZero_any uo un uc X _ Qu_1.out (by omega)).mono ?_
  rintro e1 w1 ⟨rfl, hb1⟩
  have XR_2 := hid (YR_1.out.keep hb1)
  have Xu_2 := hid (Yu_1.out.keep hb1)
  have Ru_2 := hid (Qu_1.out.below hb1)
  have HB_2 : Hid (Below w.heap.size w w1) := HC_1.out.trans (hb1.mono HC_1.out.size)
  clear ltR cR0 zR0 cR1 zR1 cR2 zR2
  have ltR := XR_2.out.lt
  have cR0 := XR_2.out.cell 0 _ rfl
  have zR0 := XR_2.out.frozen 0
  have cR1 := XR_2.out.cell 1 _ rfl
  have zR1 := XR_2.out.frozen 1
  have cR2 := XR_2.out.cell 2 _ rfl
  have zR2 := XR_2.out.frozen 2
  have ltu := Xu_2.out.lt
  have cu0 := Xu_2.out.cell 0 _ rfl
  clear hb1
  go_wp2_with fail
  refine (parse_no (t.extract (K + 1) t.size) _ (by omega) (by rw [HDT.out]; exact hv.out)).mono ?_
  rintro e2 w2 ⟨rfl, hb2⟩
  have XR_3 := hid (XR_2.out.keep hb2)
  have Xu_3 := hid (Xu_2.out.keep hb2)
  have Ru_3 := hid (Ru_2.out.below hb2)
  have HB_3 : Hid (Below w.heap.size w w2) := HB_2.out.trans (hb2.mono HB_2.out.size)
  clear ltR cR0 zR0 cR1 zR1 cR2 zR2 ltu cu0
  have ltR := XR_3.out.lt
  have cR0 := XR_3.out.cell 0 _ rfl
  have zR0 := XR_3.out.frozen 0
  have cR1 := XR_3.out.cell 1 _ rfl
  have zR1 := XR_3.out.frozen 1
  have cR2 := XR_3.out.cell 2 _ rfl
  have zR2 := XR_3.out.frozen 2
  have ltu := Xu_3.out.lt
  have cu0 := Xu_3.out.cell 0 _ rfl
  clear hb2
  have YR_3 := hid (bx_past XR_3.out (.cells #[.slice none 0 0] 88))
  have Yu_3 := hid (bx_past Xu_3.out (.cells #[.slice none 0 0] 88))
  have Yy_3 := hid (bx_new w2 #[.slice none 0 0] 88)
  have Qu_3 := hid (Ru_3.out.alloc (.cells #[.slice none 0 0] 88))
  have HC_3 : Hid (Below w.heap.size w (w2.alloc (.cells #[.slice none 0 0] 88))) := HB_3.out.alloc HB_3.out.size (.cells #[.slice none 0 0] 88)
  go_wp2
  have Z := bx_past (XR_3.out.put3 (.bool false) (.slice none 0 0) (.slice none 0 0)) (.cells #[.slice none 0 0] 88)
  have z0 := Z.cell 0 _ rfl
  have z1 := Z.cell 1 _ rfl
  have z2 := Z.cell 2 _ rfl
  unfold wput3 at z0 z1 z2
  have BB := below_put3 HB_3.out (Nat.le_refl _) (.bool false) (.slice none 0 0) (.slice none 0 0)
  exact bodyPost_ret (v := .tuple #[.agg #[.bool false, .slice none 0 0, .slice none 0 0], .bool false]) (by simp [results, Tryz.results96, go_sem, z0, z1, z2]) rfl ⟨rfl, BB.alloc BB.size _⟩

set_option maxHeartbeats 2000000 in
set_option maxRecDepth 20000 in
theorem parse5_true (s t : ByteArray) (K : Nat) (w : World) (ht : t = s.extract 1 s.size) (hK : slashAt t.data.toList = K) (hts : t.size ≤ 300) (hKt : K ≤ t.size) (hs : s.size ≤ 300) (h0 : 0 < s.size) (hm : ((s[0].toNat : Int) == 45) = true) (X : Nat) (hw : Hid (wholeB (t.data.toList.take K) = true)) (hX : Hid (dv (t.data.toList.take K) = X)) (hz : isZ X = false) (hne : ((K : Int) == (t.size : Int)) = false) (hlt : K < t.size) (Y : Nat) (hv : Hid (wholeB (t.data.toList.drop (K + 1)) = true)) (hY : Hid (dv (t.data.toList.drop (K + 1)) = Y)) (hl : Hid (lowB X Y = false)) :
    Calls Tryz.prog 96 #[.string s] w fun e w' => e = .returned (.tuple #[.agg #[.bool false, .slice none 0 0, .slice none 0 0], .bool false]) ∧ Below w.heap.size w w' := by
  have hdt : (t.extract (K + 1) t.size).data.toList = t.data.toList.drop (K + 1) := ext_drop t (K + 1)
  have HDT := hid hdt
  have hds : (t.extract (K + 1) t.size).size ≤ 300 := by rw [ByteArray.size_extract]; omega
  clear hdt
  have XR_0 := hid (bx_new w #[.bool false, .slice none 0 0, .slice none 0 0] 90)
  have HB_0 := hid ((Below.refl _ w).alloc (Nat.le_refl _) (.cells #[.bool false, .slice none 0 0, .slice none 0 0] 90))
  have HT := hid ht
  have HK := hid hK
  have HS := hid hts
  clear ht hK
  have hut : (t.extract 0 K).data.toList = t.data.toList.take K := ext_take t K
  have HUT := hid hut
  clear hut
  have hus : (t.extract 0 K).size ≤ 300 := by rw [ByteArray.size_extract]; omega
  go_enter Tryz.func96, Tryz.ntmps96
  go_wp2_with fail
  rw [← HT.out]
  refine (slashIn_any t _ (by omega)).mono ?_
  rintro e wz ⟨rfl, rfl⟩
  rw [HK.out]
  have ltR := XR_0.out.lt
  have cR0 := XR_0.out.cell 0 _ rfl
  have zR0 := XR_0.out.frozen 0
  have cR1 := XR_0.out.cell 1 _ rfl
  have zR1 := XR_0.out.frozen 1
  have cR2 := XR_0.out.cell 2 _ rfl
  have zR2 := XR_0.out.frozen 2
  go_wp2_with fail
  refine (parse_yes (t.extract 0 K) _ (by omega) (by rw [HUT.out]; exact hw.out)).mono ?_
  rintro e0 w0 ⟨v0, rfl, ⟨uo, un, uc, rfl, hr0⟩, hb0⟩
  have XR_1 := hid (XR_0.out.keep hb0)
  have HB_1 : Hid (Below w.heap.size w w0) := HB_0.out.trans (hb0.mono HB_0.out.size)
  clear ltR cR0 zR0 cR1 zR1 cR2 zR2
  have ltR := XR_1.out.lt
  have cR0 := XR_1.out.cell 0 _ rfl
  have zR0 := XR_1.out.frozen 0
  have cR1 := XR_1.out.cell 1 _ rfl
  have zR1 := XR_1.out.frozen 1
  have cR2 := XR_1.out.cell 2 _ rfl
  have zR2 := XR_1.out.frozen 2
  rw [HUT.out, hX.out] at hr0
  have Ru_1 := hid hr0
  have lenu : un ≤ 300 := by have h5 := hr0.len; have h6 := limbs_dv hw.out; rw [hX.out] at h6; have h7 : (t.data.toList.take K).length ≤ K := List.length_take_le _ _; omega
  clear hb0 hr0
  have YR_1 := hid (bx_past XR_1.out (.cells #[.slice uo un uc] 88))
  have Yu_1 := hid (bx_new w0 #[.slice uo un uc] 88)
  have Qu_1 := hid (Ru_1.out.alloc (.cells #[.slice uo un uc] 88))
  have HC_1 : Hid (Below w.heap.size w (w0.alloc (.cells #[.slice uo un uc] 88))) := HB_1.out.alloc HB_1.out.size (.cells #[.slice uo un uc] 88)
  go_wp2_with fail
  refine (isZero_any uo un uc X _ Qu_1.out (by omega)).mono ?_
  rintro e1 w1 ⟨rfl, hb1⟩
  have XR_2 := hid (YR_1.out.keep hb1)
  have Xu_2 := hid (Yu_1.out.keep hb1)
  have Ru_2 := hid (Qu_1.out.below hb1)
  have HB_2 : Hid (Below w.heap.size w w1) := HC_1.out.trans (hb1.mono HC_1.out.size)
  clear ltR cR0 zR0 cR1 zR1 cR2 zR2
  have ltR := XR_2.out.lt
  have cR0 := XR_2.out.cell 0 _ rfl
  have zR0 := XR_2.out.frozen 0
  have cR1 := XR_2.out.cell 1 _ rfl
  have zR1 := XR_2.out.frozen 1
  have cR2 := XR_2.out.cell 2 _ rfl
  have zR2 := XR_2.out.frozen 2
  have ltu := Xu_2.out.lt
  have cu0 := Xu_2.out.cell 0 _ rfl
  clear hb1
  go_wp2_with fail
  refine (parse_yes (t.extract (K + 1) t.size) _ (by omega) (by rw [HDT.out]; exact hv.out)).mono ?_
  rintro e2 w2 ⟨v2, rfl, ⟨yo, yn, yc, rfl, hr2⟩, hb2⟩
  have XR_3 := hid (XR_2.out.keep hb2)
  have Xu_3 := hid (Xu_2.out.keep hb2)
  have Ru_3 := hid (Ru_2.out.below hb2)
  have HB_3 : Hid (Below w.heap.size w w2) := HB_2.out.trans (hb2.mono HB_2.out.size)
  clear ltR cR0 zR0 cR1 zR1 cR2 zR2 ltu cu0
  have ltR := XR_3.out.lt
  have cR0 := XR_3.out.cell 0 _ rfl
  have zR0 := XR_3.out.frozen 0
  have cR1 := XR_3.out.cell 1 _ rfl
  have zR1 := XR_3.out.frozen 1
  have cR2 := XR_3.out.cell 2 _ rfl
  have zR2 := XR_3.out.frozen 2
  have ltu := Xu_3.out.lt
  have cu0 := Xu_3.out.cell 0 _ rfl
  rw [HDT.out, hY.out] at hr2
  have Ry_3 := hid hr2
  have leny : yn ≤ 300 := by have h5 := hr2.len; have h6 := limbs_dv hv.out; rw [hY.out, List.length_drop] at h6; have h7 : t.data.toList.length = t.size := (by simp); omega
  clear hb2 hr2
  have YR_3 := hid (bx_past XR_3.out (.cells #[.slice yo yn yc] 88))
  have Yu_3 := hid (bx_past Xu_3.out (.cells #[.slice yo yn yc] 88))
  have Yy_3 := hid (bx_new w2 #[.slice yo yn yc] 88)
  have Qu_3 := hid (Ru_3.out.alloc (.cells #[.slice yo yn yc] 88))
  have Qy_3 := hid (Ry_3.out.alloc (.cells #[.slice yo yn yc] 88))
  have HC_3 : Hid (Below w.heap.size w (w2.alloc (.cells #[.slice yo yn yc] 88))) := HB_3.out.alloc HB_3.out.size (.cells #[.slice yo yn yc] 88)
  go_wp2_with fail
  refine (areLowest_any uo yo un uc yn yc X Y _ Qu_3.out Qy_3.out (by omega) (by omega)).mono ?_
  rintro e3 w3 ⟨rfl, hb3⟩
  have XR_4 := hid (YR_3.out.keep hb3)
  have Xu_4 := hid (Yu_3.out.keep hb3)
  have Xy_4 := hid (Yy_3.out.keep hb3)
  have Ru_4 := hid (Qu_3.out.below hb3)
  have Ry_4 := hid (Qy_3.out.below hb3)
  have HB_4 : Hid (Below w.heap.size w w3) := HC_3.out.trans (hb3.mono HC_3.out.size)
  clear ltR cR0 zR0 cR1 zR1 cR2 zR2 ltu cu0
  have ltR := XR_4.out.lt
  have cR0 := XR_4.out.cell 0 _ rfl
  have zR0 := XR_4.out.frozen 0
  have cR1 := XR_4.out.cell 1 _ rfl
  have zR1 := XR_4.out.frozen 1
  have cR2 := XR_4.out.cell 2 _ rfl
  have zR2 := XR_4.out.frozen 2
  have ltu := Xu_4.out.lt
  have cu0 := Xu_4.out.cell 0 _ rfl
  have lty := Xy_4.out.lt
  have cy0 := Xy_4.out.cell 0 _ rfl
  rw [hl.out]
  clear hb3
  go_wp2
  have Z := XR_4.out.put3 (.bool false) (.slice none 0 0) (.slice none 0 0)
  have z0 := Z.cell 0 _ rfl
  have z1 := Z.cell 1 _ rfl
  have z2 := Z.cell 2 _ rfl
  unfold wput3 at z0 z1 z2
  have BB := below_put3 HB_4.out (Nat.le_refl _) (.bool false) (.slice none 0 0) (.slice none 0 0)
  exact bodyPost_ret (v := .tuple #[.agg #[.bool false, .slice none 0 0, .slice none 0 0], .bool false]) (by simp [results, Tryz.results96, go_sem, z0, z1, z2]) rfl ⟨rfl, BB⟩

set_option maxHeartbeats 2000000 in
set_option maxRecDepth 20000 in
theorem parse6_true (s t : ByteArray) (K : Nat) (w : World) (ht : t = s.extract 1 s.size) (hK : slashAt t.data.toList = K) (hts : t.size ≤ 300) (hKt : K ≤ t.size) (hs : s.size ≤ 300) (h0 : 0 < s.size) (hm : ((s[0].toNat : Int) == 45) = true) (X : Nat) (hw : Hid (wholeB (t.data.toList.take K) = true)) (hX : Hid (dv (t.data.toList.take K) = X)) (hz : isZ X = false) (hne : ((K : Int) == (t.size : Int)) = false) (hlt : K < t.size) (Y : Nat) (hv : Hid (wholeB (t.data.toList.drop (K + 1)) = true)) (hY : Hid (dv (t.data.toList.drop (K + 1)) = Y)) (hl : Hid (lowB X Y = true)) (q : Rat) (hq : Hid (q.num.natAbs = X ∧ q.den = Y ∧ negB q = true)) :
    Calls Tryz.prog 96 #[.string s] w fun e w' => ∃ v, e = .returned (.tuple #[v, .bool true]) ∧ Frac w' v q ∧ Below w.heap.size w w' := by
  have hdt : (t.extract (K + 1) t.size).data.toList = t.data.toList.drop (K + 1) := ext_drop t (K + 1)
  have HDT := hid hdt
  have hds : (t.extract (K + 1) t.size).size ≤ 300 := by rw [ByteArray.size_extract]; omega
  clear hdt
  have XR_0 := hid (bx_new w #[.bool false, .slice none 0 0, .slice none 0 0] 90)
  have HB_0 := hid ((Below.refl _ w).alloc (Nat.le_refl _) (.cells #[.bool false, .slice none 0 0, .slice none 0 0] 90))
  have HT := hid ht
  have HK := hid hK
  have HS := hid hts
  clear ht hK
  have hut : (t.extract 0 K).data.toList = t.data.toList.take K := ext_take t K
  have HUT := hid hut
  clear hut
  have hus : (t.extract 0 K).size ≤ 300 := by rw [ByteArray.size_extract]; omega
  go_enter Tryz.func96, Tryz.ntmps96
  go_wp2_with fail
  rw [← HT.out]
  refine (slashIn_any t _ (by omega)).mono ?_
  rintro e wz ⟨rfl, rfl⟩
  rw [HK.out]
  have ltR := XR_0.out.lt
  have cR0 := XR_0.out.cell 0 _ rfl
  have zR0 := XR_0.out.frozen 0
  have cR1 := XR_0.out.cell 1 _ rfl
  have zR1 := XR_0.out.frozen 1
  have cR2 := XR_0.out.cell 2 _ rfl
  have zR2 := XR_0.out.frozen 2
  go_wp2_with fail
  refine (parse_yes (t.extract 0 K) _ (by omega) (by rw [HUT.out]; exact hw.out)).mono ?_
  rintro e0 w0 ⟨v0, rfl, ⟨uo, un, uc, rfl, hr0⟩, hb0⟩
  have XR_1 := hid (XR_0.out.keep hb0)
  have HB_1 : Hid (Below w.heap.size w w0) := HB_0.out.trans (hb0.mono HB_0.out.size)
  clear ltR cR0 zR0 cR1 zR1 cR2 zR2
  have ltR := XR_1.out.lt
  have cR0 := XR_1.out.cell 0 _ rfl
  have zR0 := XR_1.out.frozen 0
  have cR1 := XR_1.out.cell 1 _ rfl
  have zR1 := XR_1.out.frozen 1
  have cR2 := XR_1.out.cell 2 _ rfl
  have zR2 := XR_1.out.frozen 2
  rw [HUT.out, hX.out] at hr0
  have Ru_1 := hid hr0
  have lenu : un ≤ 300 := by have h5 := hr0.len; have h6 := limbs_dv hw.out; rw [hX.out] at h6; have h7 : (t.data.toList.take K).length ≤ K := List.length_take_le _ _; omega
  clear hb0 hr0
  have YR_1 := hid (bx_past XR_1.out (.cells #[.slice uo un uc] 88))
  have Yu_1 := hid (bx_new w0 #[.slice uo un uc] 88)
  have Qu_1 := hid (Ru_1.out.alloc (.cells #[.slice uo un uc] 88))
  have HC_1 : Hid (Below w.heap.size w (w0.alloc (.cells #[.slice uo un uc] 88))) := HB_1.out.alloc HB_1.out.size (.cells #[.slice uo un uc] 88)
  go_wp2_with fail
  refine (isZero_any uo un uc X _ Qu_1.out (by omega)).mono ?_
  rintro e1 w1 ⟨rfl, hb1⟩
  have XR_2 := hid (YR_1.out.keep hb1)
  have Xu_2 := hid (Yu_1.out.keep hb1)
  have Ru_2 := hid (Qu_1.out.below hb1)
  have HB_2 : Hid (Below w.heap.size w w1) := HC_1.out.trans (hb1.mono HC_1.out.size)
  clear ltR cR0 zR0 cR1 zR1 cR2 zR2
  have ltR := XR_2.out.lt
  have cR0 := XR_2.out.cell 0 _ rfl
  have zR0 := XR_2.out.frozen 0
  have cR1 := XR_2.out.cell 1 _ rfl
  have zR1 := XR_2.out.frozen 1
  have cR2 := XR_2.out.cell 2 _ rfl
  have zR2 := XR_2.out.frozen 2
  have ltu := Xu_2.out.lt
  have cu0 := Xu_2.out.cell 0 _ rfl
  clear hb1
  go_wp2_with fail
  refine (parse_yes (t.extract (K + 1) t.size) _ (by omega) (by rw [HDT.out]; exact hv.out)).mono ?_
  rintro e2 w2 ⟨v2, rfl, ⟨yo, yn, yc, rfl, hr2⟩, hb2⟩
  have XR_3 := hid (XR_2.out.keep hb2)
  have Xu_3 := hid (Xu_2.out.keep hb2)
  have Ru_3 := hid (Ru_2.out.below hb2)
  have HB_3 : Hid (Below w.heap.size w w2) := HB_2.out.trans (hb2.mono HB_2.out.size)
  clear ltR cR0 zR0 cR1 zR1 cR2 zR2 ltu cu0
  have ltR := XR_3.out.lt
  have cR0 := XR_3.out.cell 0 _ rfl
  have zR0 := XR_3.out.frozen 0
  have cR1 := XR_3.out.cell 1 _ rfl
  have zR1 := XR_3.out.frozen 1
  have cR2 := XR_3.out.cell 2 _ rfl
  have zR2 := XR_3.out.frozen 2
  have ltu := Xu_3.out.lt
  have cu0 := Xu_3.out.cell 0 _ rfl
  rw [HDT.out, hY.out] at hr2
  have Ry_3 := hid hr2
  have leny : yn ≤ 300 := by have h5 := hr2.len; have h6 := limbs_dv hv.out; rw [hY.out, List.length_drop] at h6; have h7 : t.data.toList.length = t.size := (by simp); omega
  clear hb2 hr2
  have YR_3 := hid (bx_past XR_3.out (.cells #[.slice yo yn yc] 88))
  have Yu_3 := hid (bx_past Xu_3.out (.cells #[.slice yo yn yc] 88))
  have Yy_3 := hid (bx_new w2 #[.slice yo yn yc] 88)
  have Qu_3 := hid (Ru_3.out.alloc (.cells #[.slice yo yn yc] 88))
  have Qy_3 := hid (Ry_3.out.alloc (.cells #[.slice yo yn yc] 88))
  have HC_3 : Hid (Below w.heap.size w (w2.alloc (.cells #[.slice yo yn yc] 88))) := HB_3.out.alloc HB_3.out.size (.cells #[.slice yo yn yc] 88)
  go_wp2_with fail
  refine (areLowest_any uo yo un uc yn yc X Y _ Qu_3.out Qy_3.out (by omega) (by omega)).mono ?_
  rintro e3 w3 ⟨rfl, hb3⟩
  have XR_4 := hid (YR_3.out.keep hb3)
  have Xu_4 := hid (Yu_3.out.keep hb3)
  have Xy_4 := hid (Yy_3.out.keep hb3)
  have Ru_4 := hid (Qu_3.out.below hb3)
  have Ry_4 := hid (Qy_3.out.below hb3)
  have HB_4 : Hid (Below w.heap.size w w3) := HC_3.out.trans (hb3.mono HC_3.out.size)
  clear ltR cR0 zR0 cR1 zR1 cR2 zR2 ltu cu0
  have ltR := XR_4.out.lt
  have cR0 := XR_4.out.cell 0 _ rfl
  have zR0 := XR_4.out.frozen 0
  have cR1 := XR_4.out.cell 1 _ rfl
  have zR1 := XR_4.out.frozen 1
  have cR2 := XR_4.out.cell 2 _ rfl
  have zR2 := XR_4.out.frozen 2
  have ltu := Xu_4.out.lt
  have cu0 := Xu_4.out.cell 0 _ rfl
  have lty := Xy_4.out.lt
  have cy0 := Xy_4.out.cell 0 _ rfl
  rw [hl.out]
  clear hb3
  go_wp2
  have Z := XR_4.out.put3 (.bool true) (.slice uo un uc) (.slice yo yn yc)
  have z0 := Z.cell 0 _ rfl
  have z1 := Z.cell 1 _ rfl
  have z2 := Z.cell 2 _ rfl
  unfold wput3 at z0 z1 z2
  refine bodyPost_ret (v := .tuple #[.agg #[.bool true, .slice uo un uc, .slice yo yn yc], .bool true]) (by simp [results, Tryz.results96, go_sem, z0, z1, z2]) rfl ⟨_, rfl, ⟨uo, un, uc, yo, yn, yc, ?_, ?_, ?_⟩, below_put3 HB_4.out (Nat.le_refl _) _ _ _⟩
  · rw [hq.out.2.2]
  · rw [hq.out.1]; exact Ru_4.out.put3 XR_4.out (by decide) _ _ _
  · rw [hq.out.2.1]; exact Ry_4.out.put3 XR_4.out (by decide) _ _ _

set_option maxHeartbeats 2000000 in
set_option maxRecDepth 20000 in
theorem parse1_false (t : ByteArray) (K : Nat) (w : World) (hK : slashAt t.data.toList = K) (hts : t.size ≤ 300) (hKt : K ≤ t.size) (h0 : 0 < t.size) (hm : ((t[0].toNat : Int) == 45) = false) (hw : Hid (wholeB (t.data.toList.take K) = false)) :
    Calls Tryz.prog 96 #[.string t] w fun e w' => e = .returned (.tuple #[.agg #[.bool false, .slice none 0 0, .slice none 0 0], .bool false]) ∧ Below w.heap.size w w' := by
  have XR_0 := hid (bx_new w #[.bool false, .slice none 0 0, .slice none 0 0] 90)
  have HB_0 := hid ((Below.refl _ w).alloc (Nat.le_refl _) (.cells #[.bool false, .slice none 0 0, .slice none 0 0] 90))
  have HK := hid hK
  have HS := hid hts
  clear hK
  have hut : (t.extract 0 K).data.toList = t.data.toList.take K := ext_take t K
  have HUT := hid hut
  clear hut
  have hus : (t.extract 0 K).size ≤ 300 := by rw [ByteArray.size_extract]; omega
  go_enter Tryz.func96, Tryz.ntmps96
  go_wp2_with fail
  refine (slashIn_any t _ (by omega)).mono ?_
  rintro e wz ⟨rfl, rfl⟩
  rw [HK.out]
  have ltR := XR_0.out.lt
  have cR0 := XR_0.out.cell 0 _ rfl
  have zR0 := XR_0.out.frozen 0
  have cR1 := XR_0.out.cell 1 _ rfl
  have zR1 := XR_0.out.frozen 1
  have cR2 := XR_0.out.cell 2 _ rfl
  have zR2 := XR_0.out.frozen 2
  go_wp2_with fail
  refine (parse_no (t.extract 0 K) _ (by omega) (by rw [HUT.out]; exact hw.out)).mono ?_
  rintro e0 w0 ⟨rfl, hb0⟩
  have XR_1 := hid (XR_0.out.keep hb0)
  have HB_1 : Hid (Below w.heap.size w w0) := HB_0.out.trans (hb0.mono HB_0.out.size)
  clear ltR cR0 zR0 cR1 zR1 cR2 zR2
  have ltR := XR_1.out.lt
  have cR0 := XR_1.out.cell 0 _ rfl
  have zR0 := XR_1.out.frozen 0
  have cR1 := XR_1.out.cell 1 _ rfl
  have zR1 := XR_1.out.frozen 1
  have cR2 := XR_1.out.cell 2 _ rfl
  have zR2 := XR_1.out.frozen 2
  clear hb0
  have YR_1 := hid (bx_past XR_1.out (.cells #[.slice none 0 0] 88))
  have Yu_1 := hid (bx_new w0 #[.slice none 0 0] 88)
  have HC_1 : Hid (Below w.heap.size w (w0.alloc (.cells #[.slice none 0 0] 88))) := HB_1.out.alloc HB_1.out.size (.cells #[.slice none 0 0] 88)
  go_wp2
  have Z := bx_past (XR_1.out.put3 (.bool false) (.slice none 0 0) (.slice none 0 0)) (.cells #[.slice none 0 0] 88)
  have z0 := Z.cell 0 _ rfl
  have z1 := Z.cell 1 _ rfl
  have z2 := Z.cell 2 _ rfl
  unfold wput3 at z0 z1 z2
  have BB := below_put3 HB_1.out (Nat.le_refl _) (.bool false) (.slice none 0 0) (.slice none 0 0)
  exact bodyPost_ret (v := .tuple #[.agg #[.bool false, .slice none 0 0, .slice none 0 0], .bool false]) (by simp [results, Tryz.results96, go_sem, z0, z1, z2]) rfl ⟨rfl, BB.alloc BB.size _⟩

set_option maxHeartbeats 2000000 in
set_option maxRecDepth 20000 in
theorem parse4_false (t : ByteArray) (K : Nat) (w : World) (hK : slashAt t.data.toList = K) (hts : t.size ≤ 300) (hKt : K ≤ t.size) (h0 : 0 < t.size) (hm : ((t[0].toNat : Int) == 45) = false) (X : Nat) (hw : Hid (wholeB (t.data.toList.take K) = true)) (hX : Hid (dv (t.data.toList.take K) = X)) (hne : ((K : Int) == (t.size : Int)) = false) (hlt : K < t.size) (hv : Hid (wholeB (t.data.toList.drop (K + 1)) = false)) :
    Calls Tryz.prog 96 #[.string t] w fun e w' => e = .returned (.tuple #[.agg #[.bool false, .slice none 0 0, .slice none 0 0], .bool false]) ∧ Below w.heap.size w w' := by
  have hdt : (t.extract (K + 1) t.size).data.toList = t.data.toList.drop (K + 1) := ext_drop t (K + 1)
  have HDT := hid hdt
  have hds : (t.extract (K + 1) t.size).size ≤ 300 := by rw [ByteArray.size_extract]; omega
  clear hdt
  have XR_0 := hid (bx_new w #[.bool false, .slice none 0 0, .slice none 0 0] 90)
  have HB_0 := hid ((Below.refl _ w).alloc (Nat.le_refl _) (.cells #[.bool false, .slice none 0 0, .slice none 0 0] 90))
  have HK := hid hK
  have HS := hid hts
  clear hK
  have hut : (t.extract 0 K).data.toList = t.data.toList.take K := ext_take t K
  have HUT := hid hut
  clear hut
  have hus : (t.extract 0 K).size ≤ 300 := by rw [ByteArray.size_extract]; omega
  go_enter Tryz.func96, Tryz.ntmps96
  go_wp2_with fail
  refine (slashIn_any t _ (by omega)).mono ?_
  rintro e wz ⟨rfl, rfl⟩
  rw [HK.out]
  have ltR := XR_0.out.lt
  have cR0 := XR_0.out.cell 0 _ rfl
  have zR0 := XR_0.out.frozen 0
  have cR1 := XR_0.out.cell 1 _ rfl
  have zR1 := XR_0.out.frozen 1
  have cR2 := XR_0.out.cell 2 _ rfl
  have zR2 := XR_0.out.frozen 2
  go_wp2_with fail
  refine (parse_yes (t.extract 0 K) _ (by omega) (by rw [HUT.out]; exact hw.out)).mono ?_
  rintro e0 w0 ⟨v0, rfl, ⟨uo, un, uc, rfl, hr0⟩, hb0⟩
  have XR_1 := hid (XR_0.out.keep hb0)
  have HB_1 : Hid (Below w.heap.size w w0) := HB_0.out.trans (hb0.mono HB_0.out.size)
  clear ltR cR0 zR0 cR1 zR1 cR2 zR2
  have ltR := XR_1.out.lt
  have cR0 := XR_1.out.cell 0 _ rfl
  have zR0 := XR_1.out.frozen 0
  have cR1 := XR_1.out.cell 1 _ rfl
  have zR1 := XR_1.out.frozen 1
  have cR2 := XR_1.out.cell 2 _ rfl
  have zR2 := XR_1.out.frozen 2
  rw [HUT.out, hX.out] at hr0
  have Ru_1 := hid hr0
  have lenu : un ≤ 300 := by have h5 := hr0.len; have h6 := limbs_dv hw.out; rw [hX.out] at h6; have h7 : (t.data.toList.take K).length ≤ K := List.length_take_le _ _; omega
  clear hb0 hr0
  have YR_1 := hid (bx_past XR_1.out (.cells #[.slice uo un uc] 88))
  have Yu_1 := hid (bx_new w0 #[.slice uo un uc] 88)
  have Qu_1 := hid (Ru_1.out.alloc (.cells #[.slice uo un uc] 88))
  have HC_1 : Hid (Below w.heap.size w (w0.alloc (.cells #[.slice uo un uc] 88))) := HB_1.out.alloc HB_1.out.size (.cells #[.slice uo un uc] 88)
  go_wp2_with fail
  refine (parse_no (t.extract (K + 1) t.size) _ (by omega) (by rw [HDT.out]; exact hv.out)).mono ?_
  rintro e1 w1 ⟨rfl, hb1⟩
  have XR_2 := hid (YR_1.out.keep hb1)
  have Xu_2 := hid (Yu_1.out.keep hb1)
  have Ru_2 := hid (Qu_1.out.below hb1)
  have HB_2 : Hid (Below w.heap.size w w1) := HC_1.out.trans (hb1.mono HC_1.out.size)
  clear ltR cR0 zR0 cR1 zR1 cR2 zR2
  have ltR := XR_2.out.lt
  have cR0 := XR_2.out.cell 0 _ rfl
  have zR0 := XR_2.out.frozen 0
  have cR1 := XR_2.out.cell 1 _ rfl
  have zR1 := XR_2.out.frozen 1
  have cR2 := XR_2.out.cell 2 _ rfl
  have zR2 := XR_2.out.frozen 2
  have ltu := Xu_2.out.lt
  have cu0 := Xu_2.out.cell 0 _ rfl
  clear hb1
  have YR_2 := hid (bx_past XR_2.out (.cells #[.slice none 0 0] 88))
  have Yu_2 := hid (bx_past Xu_2.out (.cells #[.slice none 0 0] 88))
  have Yy_2 := hid (bx_new w1 #[.slice none 0 0] 88)
  have Qu_2 := hid (Ru_2.out.alloc (.cells #[.slice none 0 0] 88))
  have HC_2 : Hid (Below w.heap.size w (w1.alloc (.cells #[.slice none 0 0] 88))) := HB_2.out.alloc HB_2.out.size (.cells #[.slice none 0 0] 88)
  go_wp2
  have Z := bx_past (XR_2.out.put3 (.bool false) (.slice none 0 0) (.slice none 0 0)) (.cells #[.slice none 0 0] 88)
  have z0 := Z.cell 0 _ rfl
  have z1 := Z.cell 1 _ rfl
  have z2 := Z.cell 2 _ rfl
  unfold wput3 at z0 z1 z2
  have BB := below_put3 HB_2.out (Nat.le_refl _) (.bool false) (.slice none 0 0) (.slice none 0 0)
  exact bodyPost_ret (v := .tuple #[.agg #[.bool false, .slice none 0 0, .slice none 0 0], .bool false]) (by simp [results, Tryz.results96, go_sem, z0, z1, z2]) rfl ⟨rfl, BB.alloc BB.size _⟩

set_option maxHeartbeats 2000000 in
set_option maxRecDepth 20000 in
theorem parse5_false (t : ByteArray) (K : Nat) (w : World) (hK : slashAt t.data.toList = K) (hts : t.size ≤ 300) (hKt : K ≤ t.size) (h0 : 0 < t.size) (hm : ((t[0].toNat : Int) == 45) = false) (X : Nat) (hw : Hid (wholeB (t.data.toList.take K) = true)) (hX : Hid (dv (t.data.toList.take K) = X)) (hne : ((K : Int) == (t.size : Int)) = false) (hlt : K < t.size) (Y : Nat) (hv : Hid (wholeB (t.data.toList.drop (K + 1)) = true)) (hY : Hid (dv (t.data.toList.drop (K + 1)) = Y)) (hl : Hid (lowB X Y = false)) :
    Calls Tryz.prog 96 #[.string t] w fun e w' => e = .returned (.tuple #[.agg #[.bool false, .slice none 0 0, .slice none 0 0], .bool false]) ∧ Below w.heap.size w w' := by
  have hdt : (t.extract (K + 1) t.size).data.toList = t.data.toList.drop (K + 1) := ext_drop t (K + 1)
  have HDT := hid hdt
  have hds : (t.extract (K + 1) t.size).size ≤ 300 := by rw [ByteArray.size_extract]; omega
  clear hdt
  have XR_0 := hid (bx_new w #[.bool false, .slice none 0 0, .slice none 0 0] 90)
  have HB_0 := hid ((Below.refl _ w).alloc (Nat.le_refl _) (.cells #[.bool false, .slice none 0 0, .slice none 0 0] 90))
  have HK := hid hK
  have HS := hid hts
  clear hK
  have hut : (t.extract 0 K).data.toList = t.data.toList.take K := ext_take t K
  have HUT := hid hut
  clear hut
  have hus : (t.extract 0 K).size ≤ 300 := by rw [ByteArray.size_extract]; omega
  go_enter Tryz.func96, Tryz.ntmps96
  go_wp2_with fail
  refine (slashIn_any t _ (by omega)).mono ?_
  rintro e wz ⟨rfl, rfl⟩
  rw [HK.out]
  have ltR := XR_0.out.lt
  have cR0 := XR_0.out.cell 0 _ rfl
  have zR0 := XR_0.out.frozen 0
  have cR1 := XR_0.out.cell 1 _ rfl
  have zR1 := XR_0.out.frozen 1
  have cR2 := XR_0.out.cell 2 _ rfl
  have zR2 := XR_0.out.frozen 2
  go_wp2_with fail
  refine (parse_yes (t.extract 0 K) _ (by omega) (by rw [HUT.out]; exact hw.out)).mono ?_
  rintro e0 w0 ⟨v0, rfl, ⟨uo, un, uc, rfl, hr0⟩, hb0⟩
  have XR_1 := hid (XR_0.out.keep hb0)
  have HB_1 : Hid (Below w.heap.size w w0) := HB_0.out.trans (hb0.mono HB_0.out.size)
  clear ltR cR0 zR0 cR1 zR1 cR2 zR2
  have ltR := XR_1.out.lt
  have cR0 := XR_1.out.cell 0 _ rfl
  have zR0 := XR_1.out.frozen 0
  have cR1 := XR_1.out.cell 1 _ rfl
  have zR1 := XR_1.out.frozen 1
  have cR2 := XR_1.out.cell 2 _ rfl
  have zR2 := XR_1.out.frozen 2
  rw [HUT.out, hX.out] at hr0
  have Ru_1 := hid hr0
  have lenu : un ≤ 300 := by have h5 := hr0.len; have h6 := limbs_dv hw.out; rw [hX.out] at h6; have h7 : (t.data.toList.take K).length ≤ K := List.length_take_le _ _; omega
  clear hb0 hr0
  have YR_1 := hid (bx_past XR_1.out (.cells #[.slice uo un uc] 88))
  have Yu_1 := hid (bx_new w0 #[.slice uo un uc] 88)
  have Qu_1 := hid (Ru_1.out.alloc (.cells #[.slice uo un uc] 88))
  have HC_1 : Hid (Below w.heap.size w (w0.alloc (.cells #[.slice uo un uc] 88))) := HB_1.out.alloc HB_1.out.size (.cells #[.slice uo un uc] 88)
  go_wp2_with fail
  refine (parse_yes (t.extract (K + 1) t.size) _ (by omega) (by rw [HDT.out]; exact hv.out)).mono ?_
  rintro e1 w1 ⟨v1, rfl, ⟨yo, yn, yc, rfl, hr1⟩, hb1⟩
  have XR_2 := hid (YR_1.out.keep hb1)
  have Xu_2 := hid (Yu_1.out.keep hb1)
  have Ru_2 := hid (Qu_1.out.below hb1)
  have HB_2 : Hid (Below w.heap.size w w1) := HC_1.out.trans (hb1.mono HC_1.out.size)
  clear ltR cR0 zR0 cR1 zR1 cR2 zR2
  have ltR := XR_2.out.lt
  have cR0 := XR_2.out.cell 0 _ rfl
  have zR0 := XR_2.out.frozen 0
  have cR1 := XR_2.out.cell 1 _ rfl
  have zR1 := XR_2.out.frozen 1
  have cR2 := XR_2.out.cell 2 _ rfl
  have zR2 := XR_2.out.frozen 2
  have ltu := Xu_2.out.lt
  have cu0 := Xu_2.out.cell 0 _ rfl
  rw [HDT.out, hY.out] at hr1
  have Ry_2 := hid hr1
  have leny : yn ≤ 300 := by have h5 := hr1.len; have h6 := limbs_dv hv.out; rw [hY.out, List.length_drop] at h6; have h7 : t.data.toList.length = t.size := (by simp); omega
  clear hb1 hr1
  have YR_2 := hid (bx_past XR_2.out (.cells #[.slice yo yn yc] 88))
  have Yu_2 := hid (bx_past Xu_2.out (.cells #[.slice yo yn yc] 88))
  have Yy_2 := hid (bx_new w1 #[.slice yo yn yc] 88)
  have Qu_2 := hid (Ru_2.out.alloc (.cells #[.slice yo yn yc] 88))
  have Qy_2 := hid (Ry_2.out.alloc (.cells #[.slice yo yn yc] 88))
  have HC_2 : Hid (Below w.heap.size w (w1.alloc (.cells #[.slice yo yn yc] 88))) := HB_2.out.alloc HB_2.out.size (.cells #[.slice yo yn yc] 88)
  go_wp2_with fail
  refine (areLowest_any uo yo un uc yn yc X Y _ Qu_2.out Qy_2.out (by omega) (by omega)).mono ?_
  rintro e2 w2 ⟨rfl, hb2⟩
  have XR_3 := hid (YR_2.out.keep hb2)
  have Xu_3 := hid (Yu_2.out.keep hb2)
  have Xy_3 := hid (Yy_2.out.keep hb2)
  have Ru_3 := hid (Qu_2.out.below hb2)
  have Ry_3 := hid (Qy_2.out.below hb2)
  have HB_3 : Hid (Below w.heap.size w w2) := HC_2.out.trans (hb2.mono HC_2.out.size)
  clear ltR cR0 zR0 cR1 zR1 cR2 zR2 ltu cu0
  have ltR := XR_3.out.lt
  have cR0 := XR_3.out.cell 0 _ rfl
  have zR0 := XR_3.out.frozen 0
  have cR1 := XR_3.out.cell 1 _ rfl
  have zR1 := XR_3.out.frozen 1
  have cR2 := XR_3.out.cell 2 _ rfl
  have zR2 := XR_3.out.frozen 2
  have ltu := Xu_3.out.lt
  have cu0 := Xu_3.out.cell 0 _ rfl
  have lty := Xy_3.out.lt
  have cy0 := Xy_3.out.cell 0 _ rfl
  rw [hl.out]
  clear hb2
  go_wp2
  have Z := XR_3.out.put3 (.bool false) (.slice none 0 0) (.slice none 0 0)
  have z0 := Z.cell 0 _ rfl
  have z1 := Z.cell 1 _ rfl
  have z2 := Z.cell 2 _ rfl
  unfold wput3 at z0 z1 z2
  have BB := below_put3 HB_3.out (Nat.le_refl _) (.bool false) (.slice none 0 0) (.slice none 0 0)
  exact bodyPost_ret (v := .tuple #[.agg #[.bool false, .slice none 0 0, .slice none 0 0], .bool false]) (by simp [results, Tryz.results96, go_sem, z0, z1, z2]) rfl ⟨rfl, BB⟩

set_option maxHeartbeats 2000000 in
set_option maxRecDepth 20000 in
theorem parse6_false (t : ByteArray) (K : Nat) (w : World) (hK : slashAt t.data.toList = K) (hts : t.size ≤ 300) (hKt : K ≤ t.size) (h0 : 0 < t.size) (hm : ((t[0].toNat : Int) == 45) = false) (X : Nat) (hw : Hid (wholeB (t.data.toList.take K) = true)) (hX : Hid (dv (t.data.toList.take K) = X)) (hne : ((K : Int) == (t.size : Int)) = false) (hlt : K < t.size) (Y : Nat) (hv : Hid (wholeB (t.data.toList.drop (K + 1)) = true)) (hY : Hid (dv (t.data.toList.drop (K + 1)) = Y)) (hl : Hid (lowB X Y = true)) (q : Rat) (hq : Hid (q.num.natAbs = X ∧ q.den = Y ∧ negB q = false)) :
    Calls Tryz.prog 96 #[.string t] w fun e w' => ∃ v, e = .returned (.tuple #[v, .bool true]) ∧ Frac w' v q ∧ Below w.heap.size w w' := by
  have hdt : (t.extract (K + 1) t.size).data.toList = t.data.toList.drop (K + 1) := ext_drop t (K + 1)
  have HDT := hid hdt
  have hds : (t.extract (K + 1) t.size).size ≤ 300 := by rw [ByteArray.size_extract]; omega
  clear hdt
  have XR_0 := hid (bx_new w #[.bool false, .slice none 0 0, .slice none 0 0] 90)
  have HB_0 := hid ((Below.refl _ w).alloc (Nat.le_refl _) (.cells #[.bool false, .slice none 0 0, .slice none 0 0] 90))
  have HK := hid hK
  have HS := hid hts
  clear hK
  have hut : (t.extract 0 K).data.toList = t.data.toList.take K := ext_take t K
  have HUT := hid hut
  clear hut
  have hus : (t.extract 0 K).size ≤ 300 := by rw [ByteArray.size_extract]; omega
  go_enter Tryz.func96, Tryz.ntmps96
  go_wp2_with fail
  refine (slashIn_any t _ (by omega)).mono ?_
  rintro e wz ⟨rfl, rfl⟩
  rw [HK.out]
  have ltR := XR_0.out.lt
  have cR0 := XR_0.out.cell 0 _ rfl
  have zR0 := XR_0.out.frozen 0
  have cR1 := XR_0.out.cell 1 _ rfl
  have zR1 := XR_0.out.frozen 1
  have cR2 := XR_0.out.cell 2 _ rfl
  have zR2 := XR_0.out.frozen 2
  go_wp2_with fail
  refine (parse_yes (t.extract 0 K) _ (by omega) (by rw [HUT.out]; exact hw.out)).mono ?_
  rintro e0 w0 ⟨v0, rfl, ⟨uo, un, uc, rfl, hr0⟩, hb0⟩
  have XR_1 := hid (XR_0.out.keep hb0)
  have HB_1 : Hid (Below w.heap.size w w0) := HB_0.out.trans (hb0.mono HB_0.out.size)
  clear ltR cR0 zR0 cR1 zR1 cR2 zR2
  have ltR := XR_1.out.lt
  have cR0 := XR_1.out.cell 0 _ rfl
  have zR0 := XR_1.out.frozen 0
  have cR1 := XR_1.out.cell 1 _ rfl
  have zR1 := XR_1.out.frozen 1
  have cR2 := XR_1.out.cell 2 _ rfl
  have zR2 := XR_1.out.frozen 2
  rw [HUT.out, hX.out] at hr0
  have Ru_1 := hid hr0
  have lenu : un ≤ 300 := by have h5 := hr0.len; have h6 := limbs_dv hw.out; rw [hX.out] at h6; have h7 : (t.data.toList.take K).length ≤ K := List.length_take_le _ _; omega
  clear hb0 hr0
  have YR_1 := hid (bx_past XR_1.out (.cells #[.slice uo un uc] 88))
  have Yu_1 := hid (bx_new w0 #[.slice uo un uc] 88)
  have Qu_1 := hid (Ru_1.out.alloc (.cells #[.slice uo un uc] 88))
  have HC_1 : Hid (Below w.heap.size w (w0.alloc (.cells #[.slice uo un uc] 88))) := HB_1.out.alloc HB_1.out.size (.cells #[.slice uo un uc] 88)
  go_wp2_with fail
  refine (parse_yes (t.extract (K + 1) t.size) _ (by omega) (by rw [HDT.out]; exact hv.out)).mono ?_
  rintro e1 w1 ⟨v1, rfl, ⟨yo, yn, yc, rfl, hr1⟩, hb1⟩
  have XR_2 := hid (YR_1.out.keep hb1)
  have Xu_2 := hid (Yu_1.out.keep hb1)
  have Ru_2 := hid (Qu_1.out.below hb1)
  have HB_2 : Hid (Below w.heap.size w w1) := HC_1.out.trans (hb1.mono HC_1.out.size)
  clear ltR cR0 zR0 cR1 zR1 cR2 zR2
  have ltR := XR_2.out.lt
  have cR0 := XR_2.out.cell 0 _ rfl
  have zR0 := XR_2.out.frozen 0
  have cR1 := XR_2.out.cell 1 _ rfl
  have zR1 := XR_2.out.frozen 1
  have cR2 := XR_2.out.cell 2 _ rfl
  have zR2 := XR_2.out.frozen 2
  have ltu := Xu_2.out.lt
  have cu0 := Xu_2.out.cell 0 _ rfl
  rw [HDT.out, hY.out] at hr1
  have Ry_2 := hid hr1
  have leny : yn ≤ 300 := by have h5 := hr1.len; have h6 := limbs_dv hv.out; rw [hY.out, List.length_drop] at h6; have h7 : t.data.toList.length = t.size := (by simp); omega
  clear hb1 hr1
  have YR_2 := hid (bx_past XR_2.out (.cells #[.slice yo yn yc] 88))
  have Yu_2 := hid (bx_past Xu_2.out (.cells #[.slice yo yn yc] 88))
  have Yy_2 := hid (bx_new w1 #[.slice yo yn yc] 88)
  have Qu_2 := hid (Ru_2.out.alloc (.cells #[.slice yo yn yc] 88))
  have Qy_2 := hid (Ry_2.out.alloc (.cells #[.slice yo yn yc] 88))
  have HC_2 : Hid (Below w.heap.size w (w1.alloc (.cells #[.slice yo yn yc] 88))) := HB_2.out.alloc HB_2.out.size (.cells #[.slice yo yn yc] 88)
  go_wp2_with fail
  refine (areLowest_any uo yo un uc yn yc X Y _ Qu_2.out Qy_2.out (by omega) (by omega)).mono ?_
  rintro e2 w2 ⟨rfl, hb2⟩
  have XR_3 := hid (YR_2.out.keep hb2)
  have Xu_3 := hid (Yu_2.out.keep hb2)
  have Xy_3 := hid (Yy_2.out.keep hb2)
  have Ru_3 := hid (Qu_2.out.below hb2)
  have Ry_3 := hid (Qy_2.out.below hb2)
  have HB_3 : Hid (Below w.heap.size w w2) := HC_2.out.trans (hb2.mono HC_2.out.size)
  clear ltR cR0 zR0 cR1 zR1 cR2 zR2 ltu cu0
  have ltR := XR_3.out.lt
  have cR0 := XR_3.out.cell 0 _ rfl
  have zR0 := XR_3.out.frozen 0
  have cR1 := XR_3.out.cell 1 _ rfl
  have zR1 := XR_3.out.frozen 1
  have cR2 := XR_3.out.cell 2 _ rfl
  have zR2 := XR_3.out.frozen 2
  have ltu := Xu_3.out.lt
  have cu0 := Xu_3.out.cell 0 _ rfl
  have lty := Xy_3.out.lt
  have cy0 := Xy_3.out.cell 0 _ rfl
  rw [hl.out]
  clear hb2
  go_wp2
  have Z := XR_3.out.put3 (.bool false) (.slice uo un uc) (.slice yo yn yc)
  have z0 := Z.cell 0 _ rfl
  have z1 := Z.cell 1 _ rfl
  have z2 := Z.cell 2 _ rfl
  unfold wput3 at z0 z1 z2
  refine bodyPost_ret (v := .tuple #[.agg #[.bool false, .slice uo un uc, .slice yo yn yc], .bool true]) (by simp [results, Tryz.results96, go_sem, z0, z1, z2]) rfl ⟨_, rfl, ⟨uo, un, uc, yo, yn, yc, ?_, ?_, ?_⟩, below_put3 HB_3.out (Nat.le_refl _) _ _ _⟩
  · rw [hq.out.2.2]
  · rw [hq.out.1]; exact Ru_3.out.put3 XR_3.out (by decide) _ _ _
  · rw [hq.out.2.1]; exact Ry_3.out.put3 XR_3.out (by decide) _ _ _

end Go.Proofs.YtigokanoflkinaaGreatDoor

/- ratio.Parse: the sixth way, and all of them. (Laid by mkprs.py.) -/
namespace Go.Proofs.YtigokanoflkinaaGreatDoor
set_option linter.unusedSimpArgs false
set_option linter.unusedVariables false
open Go.RowKit Por

set_option maxHeartbeats 2000000 in
set_option maxRecDepth 20000 in
theorem parse3_true (s t : ByteArray) (K : Nat) (w : World) (ht : t = s.extract 1 s.size) (hK : slashAt t.data.toList = K) (hts : t.size ≤ 300) (hKt : K ≤ t.size) (hs : s.size ≤ 300) (h0 : 0 < s.size) (hm : ((s[0].toNat : Int) == 45) = true) (X : Nat) (hw : Hid (wholeB (t.data.toList.take K) = true)) (hX : Hid (dv (t.data.toList.take K) = X)) (hz : isZ X = false) (heq : ((K : Int) == (t.size : Int)) = true) (q : Rat) (hq : Hid (q.num.natAbs = X ∧ q.den = 1 ∧ negB q = true)) :
    Calls Tryz.prog 96 #[.string s] w fun e w' => ∃ v, e = .returned (.tuple #[v, .bool true]) ∧ Frac w' v q ∧ Below w.heap.size w w' := by
  have XR_0 := hid (bx_new w #[.bool false, .slice none 0 0, .slice none 0 0] 90)
  have HB_0 := hid ((Below.refl _ w).alloc (Nat.le_refl _) (.cells #[.bool false, .slice none 0 0, .slice none 0 0] 90))
  have HT := hid ht
  have HK := hid hK
  have HS := hid hts
  clear ht hK
  have hut : (t.extract 0 K).data.toList = t.data.toList.take K := ext_take t K
  have HUT := hid hut
  clear hut
  have hus : (t.extract 0 K).size ≤ 300 := by rw [ByteArray.size_extract]; omega
  go_enter Tryz.func96, Tryz.ntmps96
  go_wp2_with fail
  rw [← HT.out]
  refine (slashIn_any t _ (by omega)).mono ?_
  rintro e wz ⟨rfl, rfl⟩
  rw [HK.out]
  have ltR := XR_0.out.lt
  have cR0 := XR_0.out.cell 0 _ rfl
  have zR0 := XR_0.out.frozen 0
  have cR1 := XR_0.out.cell 1 _ rfl
  have zR1 := XR_0.out.frozen 1
  have cR2 := XR_0.out.cell 2 _ rfl
  have zR2 := XR_0.out.frozen 2
  go_wp2_with fail
  refine (parse_yes (t.extract 0 K) _ (by omega) (by rw [HUT.out]; exact hw.out)).mono ?_
  rintro e0 w0 ⟨v0, rfl, ⟨uo, un, uc, rfl, hr0⟩, hb0⟩
  have XR_1 := hid (XR_0.out.keep hb0)
  have HB_1 : Hid (Below w.heap.size w w0) := HB_0.out.trans (hb0.mono HB_0.out.size)
  clear ltR cR0 zR0 cR1 zR1 cR2 zR2
  have ltR := XR_1.out.lt
  have cR0 := XR_1.out.cell 0 _ rfl
  have zR0 := XR_1.out.frozen 0
  have cR1 := XR_1.out.cell 1 _ rfl
  have zR1 := XR_1.out.frozen 1
  have cR2 := XR_1.out.cell 2 _ rfl
  have zR2 := XR_1.out.frozen 2
  rw [HUT.out, hX.out] at hr0
  have Ru_1 := hid hr0
  have lenu : un ≤ 300 := by have h5 := hr0.len; have h6 := limbs_dv hw.out; rw [hX.out] at h6; have h7 : (t.data.toList.take K).length ≤ K := List.length_take_le _ _; omega
  clear hb0 hr0
  have YR_1 := hid (bx_past XR_1.out (.cells #[.slice uo un uc] 88))
  have Yu_1 := hid (bx_new w0 #[.slice uo un uc] 88)
  have Qu_1 := hid (Ru_1.out.alloc (.cells #[.slice uo un uc] 88))
  have HC_1 : Hid (Below w.heap.size w (w0.alloc (.cells #[.slice uo un uc] 88))) := HB_1.out.alloc HB_1.out.size (.cells #[.slice uo un uc] 88)
  have hp0 := XR_1.out.lt
  go_wp2_with fail
  refine (isZero_any uo un uc X _ Qu_1.out (by omega)).mono ?_
  rintro e1 w1 ⟨rfl, hb1⟩
  have XR_2 := hid (YR_1.out.keep hb1)
  have Xu_2 := hid (Yu_1.out.keep hb1)
  have Ru_2 := hid (Qu_1.out.below hb1)
  have HB_2 : Hid (Below w.heap.size w w1) := HC_1.out.trans (hb1.mono HC_1.out.size)
  clear ltR cR0 zR0 cR1 zR1 cR2 zR2
  have ltR := XR_2.out.lt
  have cR0 := XR_2.out.cell 0 _ rfl
  have zR0 := XR_2.out.frozen 0
  have cR1 := XR_2.out.cell 1 _ rfl
  have zR1 := XR_2.out.frozen 1
  have cR2 := XR_2.out.cell 2 _ rfl
  have zR2 := XR_2.out.frozen 2
  have ltu := Xu_2.out.lt
  have cu0 := Xu_2.out.cell 0 _ rfl
  clear hb1
  go_wp2_with fail
  obtain ⟨V, hV⟩ : ∃ V, V = w1 := ⟨_, rfl⟩
  rw [← hV] at XR_2 Xu_2 Ru_2 HB_2 ⊢
  have g0 := Xu_2.out.cell 0 _ rfl
  have r0 := XR_2.out.cell 0 _ rfl
  have f0 := XR_2.out.frozen 0
  have r1 := XR_2.out.cell 1 _ rfl
  have f1 := XR_2.out.frozen 1
  have r2 := XR_2.out.cell 2 _ rfl
  have f2 := XR_2.out.frozen 2
  clear hV
  go_region_held3 (fun w' => w'.cell? ⟨w0.heap.size, 0, none⟩ = some (.slice uo un uc)) (first | exact k0 | exact g0 | exact (cell_put3 (by omega)).trans k0)
    (first | (go_at_call 110; refine (one_any _).mono ?_; rintro e w4 ⟨v, rfl, ⟨oo, on, oc, rfl, hr4⟩, hb4⟩; have k0 := (Xu_2.out.drew.keep hb4).cell 0 _ rfl; have m0 := (XR_2.out.drew.keep hb4).cell 0 _ rfl; have m1 := (XR_2.out.drew.keep hb4).cell 1 _ rfl; have m2 := (XR_2.out.drew.keep hb4).cell 2 _ rfl; have j0 := (XR_2.out.drew.keep hb4).frozen 0; have j1 := (XR_2.out.drew.keep hb4).frozen 1; have j2 := (XR_2.out.drew.keep hb4).frozen 2; have Hb4 := hid hb4; have Hr4 := hid hr4; clear hb4 hr4))
  go_wp2
  have X4 := XR_2.out.drew.keep Hb4.out
  have Z := X4.put3 (.bool true) (.slice uo un uc) (.slice oo on oc)
  have z0 := Z.cell 0 _ rfl
  have z1 := Z.cell 1 _ rfl
  have z2 := Z.cell 2 _ rfl
  unfold wput3 at z0 z1 z2
  refine bodyPost_ret (v := .tuple #[.agg #[.bool true, .slice uo un uc, .slice oo on oc], .bool true]) (by simp [results, Tryz.results96, go_sem, z0, z1, z2]) rfl ⟨_, rfl, ⟨uo, un, uc, oo, on, oc, ?_, ?_, ?_⟩, below_put3 (HB_2.out.drew.trans (Hb4.out.mono HB_2.out.size)) (Nat.le_refl _) _ _ _⟩
  · rw [hq.out.2.2]
  · rw [hq.out.1]; exact (Ru_2.out.drew.below Hb4.out).put3 X4 (by decide) _ _ _
  · rw [hq.out.2.1]; exact Hr4.out.put3 X4 (by decide) _ _ _

set_option maxHeartbeats 2000000 in
set_option maxRecDepth 20000 in
theorem parse3_false (t : ByteArray) (K : Nat) (w : World) (hK : slashAt t.data.toList = K) (hts : t.size ≤ 300) (hKt : K ≤ t.size) (h0 : 0 < t.size) (hm : ((t[0].toNat : Int) == 45) = false) (X : Nat) (hw : Hid (wholeB (t.data.toList.take K) = true)) (hX : Hid (dv (t.data.toList.take K) = X)) (heq : ((K : Int) == (t.size : Int)) = true) (q : Rat) (hq : Hid (q.num.natAbs = X ∧ q.den = 1 ∧ negB q = false)) :
    Calls Tryz.prog 96 #[.string t] w fun e w' => ∃ v, e = .returned (.tuple #[v, .bool true]) ∧ Frac w' v q ∧ Below w.heap.size w w' := by
  have XR_0 := hid (bx_new w #[.bool false, .slice none 0 0, .slice none 0 0] 90)
  have HB_0 := hid ((Below.refl _ w).alloc (Nat.le_refl _) (.cells #[.bool false, .slice none 0 0, .slice none 0 0] 90))
  have HK := hid hK
  have HS := hid hts
  clear hK
  have hut : (t.extract 0 K).data.toList = t.data.toList.take K := ext_take t K
  have HUT := hid hut
  clear hut
  have hus : (t.extract 0 K).size ≤ 300 := by rw [ByteArray.size_extract]; omega
  go_enter Tryz.func96, Tryz.ntmps96
  go_wp2_with fail
  refine (slashIn_any t _ (by omega)).mono ?_
  rintro e wz ⟨rfl, rfl⟩
  rw [HK.out]
  have ltR := XR_0.out.lt
  have cR0 := XR_0.out.cell 0 _ rfl
  have zR0 := XR_0.out.frozen 0
  have cR1 := XR_0.out.cell 1 _ rfl
  have zR1 := XR_0.out.frozen 1
  have cR2 := XR_0.out.cell 2 _ rfl
  have zR2 := XR_0.out.frozen 2
  go_wp2_with fail
  refine (parse_yes (t.extract 0 K) _ (by omega) (by rw [HUT.out]; exact hw.out)).mono ?_
  rintro e0 w0 ⟨v0, rfl, ⟨uo, un, uc, rfl, hr0⟩, hb0⟩
  have XR_1 := hid (XR_0.out.keep hb0)
  have HB_1 : Hid (Below w.heap.size w w0) := HB_0.out.trans (hb0.mono HB_0.out.size)
  clear ltR cR0 zR0 cR1 zR1 cR2 zR2
  have ltR := XR_1.out.lt
  have cR0 := XR_1.out.cell 0 _ rfl
  have zR0 := XR_1.out.frozen 0
  have cR1 := XR_1.out.cell 1 _ rfl
  have zR1 := XR_1.out.frozen 1
  have cR2 := XR_1.out.cell 2 _ rfl
  have zR2 := XR_1.out.frozen 2
  rw [HUT.out, hX.out] at hr0
  have Ru_1 := hid hr0
  have lenu : un ≤ 300 := by have h5 := hr0.len; have h6 := limbs_dv hw.out; rw [hX.out] at h6; have h7 : (t.data.toList.take K).length ≤ K := List.length_take_le _ _; omega
  clear hb0 hr0
  have YR_1 := hid (bx_past XR_1.out (.cells #[.slice uo un uc] 88))
  have Yu_1 := hid (bx_new w0 #[.slice uo un uc] 88)
  have Qu_1 := hid (Ru_1.out.alloc (.cells #[.slice uo un uc] 88))
  have HC_1 : Hid (Below w.heap.size w (w0.alloc (.cells #[.slice uo un uc] 88))) := HB_1.out.alloc HB_1.out.size (.cells #[.slice uo un uc] 88)
  have hp0 := XR_1.out.lt
  go_wp2_with fail
  obtain ⟨V, hV⟩ : ∃ V, V = (w0.alloc (.cells #[.slice uo un uc] 88)) := ⟨_, rfl⟩
  rw [← hV] at YR_1 Yu_1 Qu_1 HC_1 ⊢
  have g0 := Yu_1.out.cell 0 _ rfl
  have r0 := YR_1.out.cell 0 _ rfl
  have f0 := YR_1.out.frozen 0
  have r1 := YR_1.out.cell 1 _ rfl
  have f1 := YR_1.out.frozen 1
  have r2 := YR_1.out.cell 2 _ rfl
  have f2 := YR_1.out.frozen 2
  clear hV
  go_region_held3 (fun w' => w'.cell? ⟨w0.heap.size, 0, none⟩ = some (.slice uo un uc)) (first | exact k0 | exact g0 | exact (cell_put3 (by omega)).trans k0)
    (first | (go_at_call 110; refine (one_any _).mono ?_; rintro e w4 ⟨v, rfl, ⟨oo, on, oc, rfl, hr4⟩, hb4⟩; have k0 := (Yu_1.out.drew.keep hb4).cell 0 _ rfl; have m0 := (YR_1.out.drew.keep hb4).cell 0 _ rfl; have m1 := (YR_1.out.drew.keep hb4).cell 1 _ rfl; have m2 := (YR_1.out.drew.keep hb4).cell 2 _ rfl; have j0 := (YR_1.out.drew.keep hb4).frozen 0; have j1 := (YR_1.out.drew.keep hb4).frozen 1; have j2 := (YR_1.out.drew.keep hb4).frozen 2; have Hb4 := hid hb4; have Hr4 := hid hr4; clear hb4 hr4))
  go_wp2
  have X4 := YR_1.out.drew.keep Hb4.out
  have Z := X4.put3 (.bool false) (.slice uo un uc) (.slice oo on oc)
  have z0 := Z.cell 0 _ rfl
  have z1 := Z.cell 1 _ rfl
  have z2 := Z.cell 2 _ rfl
  unfold wput3 at z0 z1 z2
  refine bodyPost_ret (v := .tuple #[.agg #[.bool false, .slice uo un uc, .slice oo on oc], .bool true]) (by simp [results, Tryz.results96, go_sem, z0, z1, z2]) rfl ⟨_, rfl, ⟨uo, un, uc, oo, on, oc, ?_, ?_, ?_⟩, below_put3 (HC_1.out.drew.trans (Hb4.out.mono HC_1.out.size)) (Nat.le_refl _) _ _ _⟩
  · rw [hq.out.2.2]
  · rw [hq.out.1]; exact (Qu_1.out.drew.below Hb4.out).put3 X4 (by decide) _ _ _
  · rw [hq.out.2.1]; exact Hr4.out.put3 X4 (by decide) _ _ _

set_option maxHeartbeats 2000000 in
set_option maxRecDepth 20000 in
theorem parse0 (t : ByteArray) (w : World) (h0 : t.size = 0) :
    Calls Tryz.prog 96 #[.string t] w fun e w' => e = .returned (.tuple #[.agg #[.bool false, .slice none 0 0, .slice none 0 0], .bool false]) ∧ Below w.heap.size w w' := by
  have XR_0 := hid (bx_new w #[.bool false, .slice none 0 0, .slice none 0 0] 90)
  have HB_0 := hid ((Below.refl _ w).alloc (Nat.le_refl _) (.cells #[.bool false, .slice none 0 0, .slice none 0 0] 90))
  have HL : Hid (t.data.toList = []) := List.eq_nil_of_length_eq_zero (by simpa using h0)
  have HK : Hid (slashAt t.data.toList = 0) := by show _ = _; rw [HL.out]; rfl
  have HW : Hid (wholeB (t.extract 0 0).data.toList = false) := by show _ = _; rw [ext_take]; rfl
  have hus : (t.extract 0 0).size ≤ 300 := by rw [ByteArray.size_extract]; omega
  go_enter Tryz.func96, Tryz.ntmps96
  go_wp2_with fail
  refine (slashIn_any t _ (by omega)).mono ?_
  rintro e wz ⟨rfl, rfl⟩
  rw [HK.out]
  have ltR := XR_0.out.lt
  have cR0 := XR_0.out.cell 0 _ rfl
  have zR0 := XR_0.out.frozen 0
  have cR1 := XR_0.out.cell 1 _ rfl
  have zR1 := XR_0.out.frozen 1
  have cR2 := XR_0.out.cell 2 _ rfl
  have zR2 := XR_0.out.frozen 2
  go_wp2_with fail
  refine (parse_no ByteArray.empty _ (by decide) rfl).mono ?_
  rintro e0 w0 ⟨rfl, hb0⟩
  have XR_1 := hid (XR_0.out.keep hb0)
  have HB_1 : Hid (Below w.heap.size w w0) := HB_0.out.trans (hb0.mono HB_0.out.size)
  clear ltR cR0 zR0 cR1 zR1 cR2 zR2
  have ltR := XR_1.out.lt
  have cR0 := XR_1.out.cell 0 _ rfl
  have zR0 := XR_1.out.frozen 0
  have cR1 := XR_1.out.cell 1 _ rfl
  have zR1 := XR_1.out.frozen 1
  have cR2 := XR_1.out.cell 2 _ rfl
  have zR2 := XR_1.out.frozen 2
  clear hb0
  have YR_1 := hid (bx_past XR_1.out (.cells #[.slice none 0 0] 88))
  have Yu_1 := hid (bx_new w0 #[.slice none 0 0] 88)
  have HC_1 : Hid (Below w.heap.size w (w0.alloc (.cells #[.slice none 0 0] 88))) := HB_1.out.alloc HB_1.out.size (.cells #[.slice none 0 0] 88)
  go_wp2
  have Z := bx_past (XR_1.out.put3 (.bool false) (.slice none 0 0) (.slice none 0 0)) (.cells #[.slice none 0 0] 88)
  have z0 := Z.cell 0 _ rfl
  have z1 := Z.cell 1 _ rfl
  have z2 := Z.cell 2 _ rfl
  unfold wput3 at z0 z1 z2
  have BB := below_put3 HB_1.out (Nat.le_refl _) (.bool false) (.slice none 0 0) (.slice none 0 0)
  exact bodyPost_ret (v := .tuple #[.agg #[.bool false, .slice none 0 0, .slice none 0 0], .bool false]) (by simp [results, Tryz.results96, go_sem, z0, z1, z2]) rfl ⟨rfl, BB.alloc BB.size _⟩

theorem parseU_true (s t : ByteArray) (w : World) (ht : t = s.extract 1 s.size) (hts : t.size ≤ 300) (hs : s.size ≤ 300) (h0 : 0 < s.size) (hm : ((s[0].toNat : Int) == 45) = true) :
    Calls Tryz.prog 96 #[.string s] w fun e w' => ParseEnd w w' e (parseU true t.data.toList) := by
  obtain ⟨K, hK⟩ : ∃ K, slashAt t.data.toList = K := ⟨_, rfl⟩
  have hKt : K ≤ t.size := by have := slashAt_le t.data.toList; have e : t.data.toList.length = t.size := (by simp); omega
  have htl : t.data.toList.length = t.size := (by simp)
  unfold parseU
  rw [hK]
  cases hw : wholeB (t.data.toList.take K) with
  | false =>
    rw [if_neg (by simp)]
    exact parse1_true s t K w ht hK hts hKt hs h0 hm hw
  | true =>
    rw [if_pos rfl]
    obtain ⟨X, hX⟩ : ∃ X, dv (t.data.toList.take K) = X := ⟨_, rfl⟩
    rw [hX]
    cases hz : isZ X with
    | true =>
      rw [if_pos (by unfold isZ at hz; simpa [zeroB] using hz)]
      exact parse2_true s t K w ht hK hts hKt hs h0 hm X hw hX hz
    | false =>
    have hzb : zeroB true X = false := by unfold isZ at hz; simpa [zeroB] using hz
    rw [if_neg (by rw [hzb]; simp)]
    by_cases hk : K = t.data.toList.length
    · rw [if_pos hk]
      exact parse3_true s t K w ht hK hts hKt hs h0 hm X hw hX hz (by rw [beq_iff_eq]; omega) _ (low_canon true X 1 (by omega) (Nat.gcd_one_right X) hzb)
    · rw [if_neg hk]
      have hlt : K < t.size := by omega
      have hne : ((K : Int) == (t.size : Int)) = false := by rw [beq_eq_false_iff_ne]; omega
      cases hv : wholeB (t.data.toList.drop (K + 1)) with
      | false =>
        rw [if_neg (by simp)]
        exact parse4_true s t K w ht hK hts hKt hs h0 hm X hw hX hz hne hlt hv
      | true =>
        rw [if_pos rfl]
        obtain ⟨Y, hY⟩ : ∃ Y, dv (t.data.toList.drop (K + 1)) = Y := ⟨_, rfl⟩
        rw [hY]
        cases hl : lowB X Y with
        | false =>
          rw [if_neg (by simp)]
          exact parse5_true s t K w ht hK hts hKt hs h0 hm X hw hX hz hne hlt Y hv hY hl
        | true =>
          rw [if_pos rfl]
          have hg : 1 < Y ∧ Nat.gcd X Y = 1 := by unfold lowB at hl; simpa using hl
          exact parse6_true s t K w ht hK hts hKt hs h0 hm X hw hX hz hne hlt Y hv hY hl _ (low_canon true X Y (by omega) hg.2 hzb)

theorem parseU_false (t : ByteArray) (w : World) (hts : t.size ≤ 300) (h0 : 0 < t.size) (hm : ((t[0].toNat : Int) == 45) = false) :
    Calls Tryz.prog 96 #[.string t] w fun e w' => ParseEnd w w' e (parseU false t.data.toList) := by
  obtain ⟨K, hK⟩ : ∃ K, slashAt t.data.toList = K := ⟨_, rfl⟩
  have hKt : K ≤ t.size := by have := slashAt_le t.data.toList; have e : t.data.toList.length = t.size := (by simp); omega
  have htl : t.data.toList.length = t.size := (by simp)
  unfold parseU
  rw [hK]
  cases hw : wholeB (t.data.toList.take K) with
  | false =>
    rw [if_neg (by simp)]
    exact parse1_false t K w hK hts hKt h0 hm hw
  | true =>
    rw [if_pos rfl]
    obtain ⟨X, hX⟩ : ∃ X, dv (t.data.toList.take K) = X := ⟨_, rfl⟩
    rw [hX]
    have hzb : zeroB false X = false := rfl
    rw [if_neg (by rw [hzb]; simp)]
    by_cases hk : K = t.data.toList.length
    · rw [if_pos hk]
      exact parse3_false t K w hK hts hKt h0 hm X hw hX (by rw [beq_iff_eq]; omega) _ (low_canon false X 1 (by omega) (Nat.gcd_one_right X) hzb)
    · rw [if_neg hk]
      have hlt : K < t.size := by omega
      have hne : ((K : Int) == (t.size : Int)) = false := by rw [beq_eq_false_iff_ne]; omega
      cases hv : wholeB (t.data.toList.drop (K + 1)) with
      | false =>
        rw [if_neg (by simp)]
        exact parse4_false t K w hK hts hKt h0 hm X hw hX hne hlt hv
      | true =>
        rw [if_pos rfl]
        obtain ⟨Y, hY⟩ : ∃ Y, dv (t.data.toList.drop (K + 1)) = Y := ⟨_, rfl⟩
        rw [hY]
        cases hl : lowB X Y with
        | false =>
          rw [if_neg (by simp)]
          exact parse5_false t K w hK hts hKt h0 hm X hw hX hne hlt Y hv hY hl
        | true =>
          rw [if_pos rfl]
          have hg : 1 < Y ∧ Nat.gcd X Y = 1 := by unfold lowB at hl; simpa using hl
          exact parse6_false t K w hK hts hKt h0 hm X hw hX hne hlt Y hv hY hl _ (low_canon false X Y (by omega) hg.2 hzb)

theorem rparse_any (s : ByteArray) (w : World) (hs : s.size ≤ 300) :
    Calls Tryz.prog 96 #[.string s] w fun e w' => ParseEnd w w' e (parseL s.data.toList) := by
  by_cases h0 : s.size = 0
  · have e : s.data.toList = [] := List.eq_nil_of_length_eq_zero (by simpa using h0)
    rw [e]
    exact parse0 s w h0
  · have hp : 0 < s.size := by omega
    have hh : s.data.toList.head? = some s[0] := by
      rw [List.head?_eq_getElem?, List.getElem?_eq_getElem (by simpa using hp)]; rfl
    unfold parseL
    rw [hh]
    by_cases hm : s[0] = 45
    · rw [if_pos (by rw [hm])]
      have := parseU_true s (s.extract 1 s.size) w rfl (by rw [ByteArray.size_extract]; omega) hs hp (by rw [hm]; rfl)
      rwa [ext_tail] at this
    · rw [if_neg (by intro hc; exact hm (Option.some.inj hc))]
      exact parseU_false s w hs hp (by
        rw [beq_eq_false_iff_ne]
        intro hc
        apply hm
        apply UInt8.toNat_inj.1
        have e : (45 : UInt8).toNat = 45 := rfl
        omega)
end Go.Proofs.YtigokanoflkinaaGreatDoor
