/- RefJ, RefK, RefL, RefLa, RefLb, RefMa, RefMb, joined. -/
import Derived.Test.YtigokanoflkinaaGreatDoorRefMid
import Derived.Test.YtigokanoflkinaaGreatDoorWRat
import Derived.Test.YtigokanoflkinaaGreatDoorRefBas
import Derived.Test.YtigokanoflkinaaGreatDoorWPrs
/- portionref.Text: the one text of any fraction of the reference. (Laid by mkreft.py.) -/
namespace Go.Proofs.YtigokanoflkinaaGreatDoor
set_option linter.unusedSimpArgs false
set_option linter.unusedVariables false
open Go.RowKit Por
open Go.Lib (decDigits)

theorem txt_parts (m : Bool) (p q : Nat) (hp : p ≠ 0) (hq : q ≠ 0) :
    txt (mkRat (sg m p) q) = (if m then [45] else []) ++ decDigits (p / Nat.gcd p q) ++ (if q / Nat.gcd p q = 1 then [] else 47 :: decDigits (q / Nat.gcd p q)) := by
  obtain ⟨h1, h2, h3⟩ := low_eq m p q hq
  have hg : 0 < Nat.gcd p q := Nat.gcd_pos_of_pos_right p (by omega)
  have hp1 : p / Nat.gcd p q ≠ 0 := by
    have := Nat.div_pos (Nat.le_of_dvd (by omega) (Nat.gcd_dvd_left p q)) hg
    omega
  have hq1 : 0 < q / Nat.gcd p q := Nat.div_pos (Nat.le_of_dvd (by omega) (Nat.gcd_dvd_right p q)) hg
  unfold txt
  rw [h1, h2, h3]
  have e : (m && !(p / Nat.gcd p q == 0)) = m := by
    rw [show (p / Nat.gcd p q == 0) = false from beq_eq_false_iff_ne.2 hp1]; simp
  rw [e]
  congr 1
  by_cases h : q / Nat.gcd p q = 1
  · rw [if_pos h, if_neg (by omega)]
  · rw [if_neg h, if_pos (by omega)]
theorem txt_none (m : Bool) (q : Nat) : txt (mkRat (sg m 0) q) = [48] := by
  have e : mkRat (sg m 0) q = 0 := by
    have : sg m 0 = 0 := by cases m <;> rfl
    rw [this]; exact Rat.zero_mkRat q
  rw [e]
  have h1 : negB (0 : Rat) = false := rfl
  unfold txt
  rw [h1]
  show [] ++ decDigits 0 ++ [] = _
  rw [dec_small (by omega)]; rfl
theorem limbs_is_one {z : Nat} (h : z = 1) : (limbs z).length = 1 ∧ lm (limbs z) 0 = 1 := by subst h; rw [limbs_one]; exact ⟨rfl, rfl⟩
theorem limbs_not_one {z : Nat} (h : z ≠ 1) (hl : (limbs z).length = 1) : lm (limbs z) 0 ≠ 1 := by
  intro hc
  apply h
  have h1 := val_limbs z
  have h2 : limbs z = [lm (limbs z) 0] := by
    match hz : limbs z, hl with
    | [a], _ => rfl
  rw [h2, hc] at h1
  simp [val] at h1
  omega

set_option maxHeartbeats 2000000 in
set_option maxRecDepth 20000 in
theorem ptext_zero (m : Bool) (ao bo : Option Addr) (n capa k capb : Nat) (p q : Nat) (w : World) (h1 : Row w ao n capa (limbs p)) (h2 : Row w bo k capb (limbs q)) (b1 : n ≤ 8000) (b2 : k ≤ 8000) (hn : n = 0) :
    Calls Tryz.prog 40 #[.agg #[.bool m, .slice ao n capa, .slice bo k capb]] w fun e w' => e = .returned (.string ⟨#[48]⟩) ∧ Below w.heap.size w w' := by
  subst hn
  have XA_0 := hid (bx_new w #[.bool m, .slice ao 0 capa, .slice bo k capb] 83)
  have HB_0 := hid ((Below.refl _ w).alloc (Nat.le_refl _) (.cells #[.bool m, .slice ao 0 capa, .slice bo k capb] 83))
  have R0_0 := hid (h1.below HB_0.out)
  have R1_0 := hid (h2.below HB_0.out)
  have len0 := h1.len
  have len1 := h2.len
  clear h1 h2
  go_enter Tryz.func40, Tryz.ntmps40
  go_wp2
  go_ret
  exact ⟨rfl, HB_0.out⟩

set_option maxHeartbeats 2000000 in
set_option maxRecDepth 20000 in
theorem ptext_false_one (ao bo : Option Addr) (n capa k capb : Nat) (p q : Nat) (w : World) (h1 : Row w ao n capa (limbs p)) (h2 : Row w bo k capb (limbs q)) (b1 : n ≤ 8000) (b2 : k ≤ 8000) (hp : Hid (p ≠ 0)) (hq : Hid (q ≠ 0)) (hone : Hid (q / Nat.gcd p q = 1)) :
    Calls Tryz.prog 40 #[.agg #[.bool false, .slice ao n capa, .slice bo k capb]] w fun e w' => e = .returned (.string ⟨(txt (mkRat (sg false p) q)).toArray⟩) ∧ Below w.heap.size w w' := by
  have hg0 : Hid (Nat.gcd p q ≠ 0) := by have := Nat.gcd_pos_of_pos_right p (show 0 < q by have := hq.out; omega); show _ ≠ _; omega
  have hn0 : ((n : Int) == 0) = false := by
    rw [beq_eq_false_iff_ne]; have h1 := limbs_ne_nil hp.out; have h2 := List.length_pos_iff.2 h1; have h3 := h1; have := ‹Row w ao n capa (limbs p)›.len; omega
  have HO := hone
  have XA_0 := hid (bx_new w #[.bool false, .slice ao n capa, .slice bo k capb] 83)
  have HB_0 := hid ((Below.refl _ w).alloc (Nat.le_refl _) (.cells #[.bool false, .slice ao n capa, .slice bo k capb] 83))
  have R0_0 := hid (h1.below HB_0.out)
  have R1_0 := hid (h2.below HB_0.out)
  have len0 := h1.len
  have len1 := h2.len
  clear h1 h2
  go_enter Tryz.func40, Tryz.ntmps40
  go_wp2_with fail
  refine (pcommon_any ao bo n capa k capb p q _ R0_0.out R1_0.out (by omega) (by omega) hp.out hq.out).mono ?_
  rintro e0 w0 ⟨v0, rfl, ⟨go, gn, gc, rfl, hr0, _⟩, hb0⟩
  have XA_1 := hid (XA_0.out.keep hb0)
  have R0_1 := hid (R0_0.out.below hb0)
  have R1_1 := hid (R1_0.out.below hb0)
  have HB_1 : Hid (Below w.heap.size w w0) := HB_0.out.trans (hb0.mono HB_0.out.size)
  have ltA := XA_1.out.lt
  have cA0 := XA_1.out.cell 0 _ rfl
  have cA1 := XA_1.out.cell 1 _ rfl
  have cA2 := XA_1.out.cell 2 _ rfl
  have Rg_1 := hid hr0
  have leng := hr0.len
  have bdg : gn ≤ 8000 := by rw [← leng]; exact Nat.le_trans (len_mono (Nat.gcd_le_left q (by have := hp.out; omega))) (by omega)
  clear hb0 hr0
  go_wp2_with fail
  refine (pover_any ao go n capa gn gc p (Nat.gcd p q) _ R0_1.out Rg_1.out (by omega) (by omega) hg0.out).mono ?_
  rintro e1 w1 ⟨u1, v1, rfl, ⟨po, pn, pc, rfl, hr1, _⟩, ⟨pro, prn, prc, rfl, hs1, _⟩, hb1⟩
  have XA_2 := hid (XA_1.out.keep hb1)
  have R0_2 := hid (R0_1.out.below hb1)
  have R1_2 := hid (R1_1.out.below hb1)
  have Rg_2 := hid (Rg_1.out.below hb1)
  have HB_2 : Hid (Below w.heap.size w w1) := HB_1.out.trans (hb1.mono HB_1.out.size)
  clear ltA cA0 cA1 cA2
  have ltA := XA_2.out.lt
  have cA0 := XA_2.out.cell 0 _ rfl
  have cA1 := XA_2.out.cell 1 _ rfl
  have cA2 := XA_2.out.cell 2 _ rfl
  have Rp_2 := hid hr1
  have lenp := hr1.len
  have bdp : pn ≤ 8000 := by rw [← lenp]; exact Nat.le_trans (len_mono (Nat.div_le_self _ _)) (by omega)
  clear hb1 hr1 hs1
  go_wp2_with fail
  refine (pover_any bo go k capb gn gc q (Nat.gcd p q) _ R1_2.out Rg_2.out (by omega) (by omega) hg0.out).mono ?_
  rintro e2 w2 ⟨u2, v2, rfl, ⟨qo, qn, qc, rfl, hr2, _⟩, ⟨qro, qrn, qrc, rfl, hs2, _⟩, hb2⟩
  have XA_3 := hid (XA_2.out.keep hb2)
  have R0_3 := hid (R0_2.out.below hb2)
  have R1_3 := hid (R1_2.out.below hb2)
  have Rg_3 := hid (Rg_2.out.below hb2)
  have Rp_3 := hid (Rp_2.out.below hb2)
  have HB_3 : Hid (Below w.heap.size w w2) := HB_2.out.trans (hb2.mono HB_2.out.size)
  clear ltA cA0 cA1 cA2
  have ltA := XA_3.out.lt
  have cA0 := XA_3.out.cell 0 _ rfl
  have cA1 := XA_3.out.cell 1 _ rfl
  have cA2 := XA_3.out.cell 2 _ rfl
  have Rq_3 := hid hr2
  have lenq := hr2.len
  have bdq : qn ≤ 8000 := by rw [← lenq]; exact Nat.le_trans (len_mono (Nat.div_le_self _ _)) (by omega)
  clear hb2 hr2 hs2
  have hl0 : (decDigits (p / Nat.gcd p q)).length ≤ 200000 := Nat.le_trans (dec_len_of _ pn lenp) (by omega)
  have hl1 : (decDigits (q / Nat.gcd p q)).length ≤ 200000 := Nat.le_trans (dec_len_of _ qn lenq) (by omega)
  go_wp2_with fail
  refine (ptold_any po pn pc (p / Nat.gcd p q) _ Rp_3.out (by omega)).mono ?_
  rintro e3 w3 ⟨rfl, hb3⟩
  have XA_4 := hid (XA_3.out.keep hb3)
  have R0_4 := hid (R0_3.out.below hb3)
  have R1_4 := hid (R1_3.out.below hb3)
  have Rg_4 := hid (Rg_3.out.below hb3)
  have Rp_4 := hid (Rp_3.out.below hb3)
  have Rq_4 := hid (Rq_3.out.below hb3)
  have HB_4 : Hid (Below w.heap.size w w3) := HB_3.out.trans (hb3.mono HB_3.out.size)
  clear ltA cA0 cA1 cA2
  have ltA := XA_4.out.lt
  have cA0 := XA_4.out.cell 0 _ rfl
  have cA1 := XA_4.out.cell 1 _ rfl
  have cA2 := XA_4.out.cell 2 _ rfl
  clear hb3
  have hq1 := limbs_is_one hone.out
  have hqn : qn = 1 := by omega
  subst hqn
  obtain ⟨qb, qoff, rfl, hqlt⟩ := Rq_4.out.head (by omega)
  have qc0 := Rq_4.out.cell qb qoff rfl 0 (by omega)
  rw [hq1.2] at qc0
  rw [Nat.add_zero] at qc0
  clear hq1
  go_wp2
  go_ret
  refine ⟨?_, HB_4.out⟩
  show Ending.returned (.string _) = _
  congr 2
  apply bytes_ext
  rw [txt_parts _ p q hp.out hq.out]
  simp [HO.out, ByteArray.data_append]

set_option maxHeartbeats 2000000 in
set_option maxRecDepth 20000 in
theorem ptext_false_long (ao bo : Option Addr) (n capa k capb : Nat) (p q : Nat) (w : World) (h1 : Row w ao n capa (limbs p)) (h2 : Row w bo k capb (limbs q)) (b1 : n ≤ 8000) (b2 : k ≤ 8000) (hp : Hid (p ≠ 0)) (hq : Hid (q ≠ 0)) (hone : Hid ((limbs (q / Nat.gcd p q)).length ≠ 1)) :
    Calls Tryz.prog 40 #[.agg #[.bool false, .slice ao n capa, .slice bo k capb]] w fun e w' => e = .returned (.string ⟨(txt (mkRat (sg false p) q)).toArray⟩) ∧ Below w.heap.size w w' := by
  have hg0 : Hid (Nat.gcd p q ≠ 0) := by have := Nat.gcd_pos_of_pos_right p (show 0 < q by have := hq.out; omega); show _ ≠ _; omega
  have hn0 : ((n : Int) == 0) = false := by
    rw [beq_eq_false_iff_ne]; have h1 := limbs_ne_nil hp.out; have h2 := List.length_pos_iff.2 h1; have h3 := h1; have := ‹Row w ao n capa (limbs p)›.len; omega
  have HO : Hid (¬ q / Nat.gcd p q = 1) := fun h => hone.out (by rw [h, limbs_one]; rfl)
  have XA_0 := hid (bx_new w #[.bool false, .slice ao n capa, .slice bo k capb] 83)
  have HB_0 := hid ((Below.refl _ w).alloc (Nat.le_refl _) (.cells #[.bool false, .slice ao n capa, .slice bo k capb] 83))
  have R0_0 := hid (h1.below HB_0.out)
  have R1_0 := hid (h2.below HB_0.out)
  have len0 := h1.len
  have len1 := h2.len
  clear h1 h2
  go_enter Tryz.func40, Tryz.ntmps40
  go_wp2_with fail
  refine (pcommon_any ao bo n capa k capb p q _ R0_0.out R1_0.out (by omega) (by omega) hp.out hq.out).mono ?_
  rintro e0 w0 ⟨v0, rfl, ⟨go, gn, gc, rfl, hr0, _⟩, hb0⟩
  have XA_1 := hid (XA_0.out.keep hb0)
  have R0_1 := hid (R0_0.out.below hb0)
  have R1_1 := hid (R1_0.out.below hb0)
  have HB_1 : Hid (Below w.heap.size w w0) := HB_0.out.trans (hb0.mono HB_0.out.size)
  have ltA := XA_1.out.lt
  have cA0 := XA_1.out.cell 0 _ rfl
  have cA1 := XA_1.out.cell 1 _ rfl
  have cA2 := XA_1.out.cell 2 _ rfl
  have Rg_1 := hid hr0
  have leng := hr0.len
  have bdg : gn ≤ 8000 := by rw [← leng]; exact Nat.le_trans (len_mono (Nat.gcd_le_left q (by have := hp.out; omega))) (by omega)
  clear hb0 hr0
  go_wp2_with fail
  refine (pover_any ao go n capa gn gc p (Nat.gcd p q) _ R0_1.out Rg_1.out (by omega) (by omega) hg0.out).mono ?_
  rintro e1 w1 ⟨u1, v1, rfl, ⟨po, pn, pc, rfl, hr1, _⟩, ⟨pro, prn, prc, rfl, hs1, _⟩, hb1⟩
  have XA_2 := hid (XA_1.out.keep hb1)
  have R0_2 := hid (R0_1.out.below hb1)
  have R1_2 := hid (R1_1.out.below hb1)
  have Rg_2 := hid (Rg_1.out.below hb1)
  have HB_2 : Hid (Below w.heap.size w w1) := HB_1.out.trans (hb1.mono HB_1.out.size)
  clear ltA cA0 cA1 cA2
  have ltA := XA_2.out.lt
  have cA0 := XA_2.out.cell 0 _ rfl
  have cA1 := XA_2.out.cell 1 _ rfl
  have cA2 := XA_2.out.cell 2 _ rfl
  have Rp_2 := hid hr1
  have lenp := hr1.len
  have bdp : pn ≤ 8000 := by rw [← lenp]; exact Nat.le_trans (len_mono (Nat.div_le_self _ _)) (by omega)
  clear hb1 hr1 hs1
  go_wp2_with fail
  refine (pover_any bo go k capb gn gc q (Nat.gcd p q) _ R1_2.out Rg_2.out (by omega) (by omega) hg0.out).mono ?_
  rintro e2 w2 ⟨u2, v2, rfl, ⟨qo, qn, qc, rfl, hr2, _⟩, ⟨qro, qrn, qrc, rfl, hs2, _⟩, hb2⟩
  have XA_3 := hid (XA_2.out.keep hb2)
  have R0_3 := hid (R0_2.out.below hb2)
  have R1_3 := hid (R1_2.out.below hb2)
  have Rg_3 := hid (Rg_2.out.below hb2)
  have Rp_3 := hid (Rp_2.out.below hb2)
  have HB_3 : Hid (Below w.heap.size w w2) := HB_2.out.trans (hb2.mono HB_2.out.size)
  clear ltA cA0 cA1 cA2
  have ltA := XA_3.out.lt
  have cA0 := XA_3.out.cell 0 _ rfl
  have cA1 := XA_3.out.cell 1 _ rfl
  have cA2 := XA_3.out.cell 2 _ rfl
  have Rq_3 := hid hr2
  have lenq := hr2.len
  have bdq : qn ≤ 8000 := by rw [← lenq]; exact Nat.le_trans (len_mono (Nat.div_le_self _ _)) (by omega)
  clear hb2 hr2 hs2
  have hl0 : (decDigits (p / Nat.gcd p q)).length ≤ 200000 := Nat.le_trans (dec_len_of _ pn lenp) (by omega)
  have hl1 : (decDigits (q / Nat.gcd p q)).length ≤ 200000 := Nat.le_trans (dec_len_of _ qn lenq) (by omega)
  go_wp2_with fail
  refine (ptold_any po pn pc (p / Nat.gcd p q) _ Rp_3.out (by omega)).mono ?_
  rintro e3 w3 ⟨rfl, hb3⟩
  have XA_4 := hid (XA_3.out.keep hb3)
  have R0_4 := hid (R0_3.out.below hb3)
  have R1_4 := hid (R1_3.out.below hb3)
  have Rg_4 := hid (Rg_3.out.below hb3)
  have Rp_4 := hid (Rp_3.out.below hb3)
  have Rq_4 := hid (Rq_3.out.below hb3)
  have HB_4 : Hid (Below w.heap.size w w3) := HB_3.out.trans (hb3.mono HB_3.out.size)
  clear ltA cA0 cA1 cA2
  have ltA := XA_4.out.lt
  have cA0 := XA_4.out.cell 0 _ rfl
  have cA1 := XA_4.out.cell 1 _ rfl
  have cA2 := XA_4.out.cell 2 _ rfl
  clear hb3
  have hqn : ((qn : Int) == 1) = false := by rw [beq_eq_false_iff_ne]; have := hone.out; omega
  go_wp2_with fail
  refine (ptold_any qo qn qc (q / Nat.gcd p q) _ Rq_4.out (by omega)).mono ?_
  rintro e4 w4 ⟨rfl, hb4⟩
  have XA_5 := hid (XA_4.out.keep hb4)
  have R0_5 := hid (R0_4.out.below hb4)
  have R1_5 := hid (R1_4.out.below hb4)
  have Rg_5 := hid (Rg_4.out.below hb4)
  have Rp_5 := hid (Rp_4.out.below hb4)
  have Rq_5 := hid (Rq_4.out.below hb4)
  have HB_5 : Hid (Below w.heap.size w w4) := HB_4.out.trans (hb4.mono HB_4.out.size)
  clear ltA cA0 cA1 cA2
  have ltA := XA_5.out.lt
  have cA0 := XA_5.out.cell 0 _ rfl
  have cA1 := XA_5.out.cell 1 _ rfl
  have cA2 := XA_5.out.cell 2 _ rfl
  clear hb4
  go_wp2
  go_ret
  refine ⟨?_, HB_5.out⟩
  show Ending.returned (.string _) = _
  congr 2
  apply bytes_ext
  rw [txt_parts _ p q hp.out hq.out]
  simp [HO.out, ByteArray.data_append]

set_option maxHeartbeats 2000000 in
set_option maxRecDepth 20000 in
theorem ptext_false_short (ao bo : Option Addr) (n capa k capb : Nat) (p q : Nat) (w : World) (h1 : Row w ao n capa (limbs p)) (h2 : Row w bo k capb (limbs q)) (b1 : n ≤ 8000) (b2 : k ≤ 8000) (hp : Hid (p ≠ 0)) (hq : Hid (q ≠ 0)) (hone : Hid (q / Nat.gcd p q ≠ 1)) (hlen : Hid ((limbs (q / Nat.gcd p q)).length = 1)) :
    Calls Tryz.prog 40 #[.agg #[.bool false, .slice ao n capa, .slice bo k capb]] w fun e w' => e = .returned (.string ⟨(txt (mkRat (sg false p) q)).toArray⟩) ∧ Below w.heap.size w w' := by
  have hg0 : Hid (Nat.gcd p q ≠ 0) := by have := Nat.gcd_pos_of_pos_right p (show 0 < q by have := hq.out; omega); show _ ≠ _; omega
  have hn0 : ((n : Int) == 0) = false := by
    rw [beq_eq_false_iff_ne]; have h1 := limbs_ne_nil hp.out; have h2 := List.length_pos_iff.2 h1; have h3 := h1; have := ‹Row w ao n capa (limbs p)›.len; omega
  have HO : Hid (¬ q / Nat.gcd p q = 1) := hone.out
  have XA_0 := hid (bx_new w #[.bool false, .slice ao n capa, .slice bo k capb] 83)
  have HB_0 := hid ((Below.refl _ w).alloc (Nat.le_refl _) (.cells #[.bool false, .slice ao n capa, .slice bo k capb] 83))
  have R0_0 := hid (h1.below HB_0.out)
  have R1_0 := hid (h2.below HB_0.out)
  have len0 := h1.len
  have len1 := h2.len
  clear h1 h2
  go_enter Tryz.func40, Tryz.ntmps40
  go_wp2_with fail
  refine (pcommon_any ao bo n capa k capb p q _ R0_0.out R1_0.out (by omega) (by omega) hp.out hq.out).mono ?_
  rintro e0 w0 ⟨v0, rfl, ⟨go, gn, gc, rfl, hr0, _⟩, hb0⟩
  have XA_1 := hid (XA_0.out.keep hb0)
  have R0_1 := hid (R0_0.out.below hb0)
  have R1_1 := hid (R1_0.out.below hb0)
  have HB_1 : Hid (Below w.heap.size w w0) := HB_0.out.trans (hb0.mono HB_0.out.size)
  have ltA := XA_1.out.lt
  have cA0 := XA_1.out.cell 0 _ rfl
  have cA1 := XA_1.out.cell 1 _ rfl
  have cA2 := XA_1.out.cell 2 _ rfl
  have Rg_1 := hid hr0
  have leng := hr0.len
  have bdg : gn ≤ 8000 := by rw [← leng]; exact Nat.le_trans (len_mono (Nat.gcd_le_left q (by have := hp.out; omega))) (by omega)
  clear hb0 hr0
  go_wp2_with fail
  refine (pover_any ao go n capa gn gc p (Nat.gcd p q) _ R0_1.out Rg_1.out (by omega) (by omega) hg0.out).mono ?_
  rintro e1 w1 ⟨u1, v1, rfl, ⟨po, pn, pc, rfl, hr1, _⟩, ⟨pro, prn, prc, rfl, hs1, _⟩, hb1⟩
  have XA_2 := hid (XA_1.out.keep hb1)
  have R0_2 := hid (R0_1.out.below hb1)
  have R1_2 := hid (R1_1.out.below hb1)
  have Rg_2 := hid (Rg_1.out.below hb1)
  have HB_2 : Hid (Below w.heap.size w w1) := HB_1.out.trans (hb1.mono HB_1.out.size)
  clear ltA cA0 cA1 cA2
  have ltA := XA_2.out.lt
  have cA0 := XA_2.out.cell 0 _ rfl
  have cA1 := XA_2.out.cell 1 _ rfl
  have cA2 := XA_2.out.cell 2 _ rfl
  have Rp_2 := hid hr1
  have lenp := hr1.len
  have bdp : pn ≤ 8000 := by rw [← lenp]; exact Nat.le_trans (len_mono (Nat.div_le_self _ _)) (by omega)
  clear hb1 hr1 hs1
  go_wp2_with fail
  refine (pover_any bo go k capb gn gc q (Nat.gcd p q) _ R1_2.out Rg_2.out (by omega) (by omega) hg0.out).mono ?_
  rintro e2 w2 ⟨u2, v2, rfl, ⟨qo, qn, qc, rfl, hr2, _⟩, ⟨qro, qrn, qrc, rfl, hs2, _⟩, hb2⟩
  have XA_3 := hid (XA_2.out.keep hb2)
  have R0_3 := hid (R0_2.out.below hb2)
  have R1_3 := hid (R1_2.out.below hb2)
  have Rg_3 := hid (Rg_2.out.below hb2)
  have Rp_3 := hid (Rp_2.out.below hb2)
  have HB_3 : Hid (Below w.heap.size w w2) := HB_2.out.trans (hb2.mono HB_2.out.size)
  clear ltA cA0 cA1 cA2
  have ltA := XA_3.out.lt
  have cA0 := XA_3.out.cell 0 _ rfl
  have cA1 := XA_3.out.cell 1 _ rfl
  have cA2 := XA_3.out.cell 2 _ rfl
  have Rq_3 := hid hr2
  have lenq := hr2.len
  have bdq : qn ≤ 8000 := by rw [← lenq]; exact Nat.le_trans (len_mono (Nat.div_le_self _ _)) (by omega)
  clear hb2 hr2 hs2
  have hl0 : (decDigits (p / Nat.gcd p q)).length ≤ 200000 := Nat.le_trans (dec_len_of _ pn lenp) (by omega)
  have hl1 : (decDigits (q / Nat.gcd p q)).length ≤ 200000 := Nat.le_trans (dec_len_of _ qn lenq) (by omega)
  go_wp2_with fail
  refine (ptold_any po pn pc (p / Nat.gcd p q) _ Rp_3.out (by omega)).mono ?_
  rintro e3 w3 ⟨rfl, hb3⟩
  have XA_4 := hid (XA_3.out.keep hb3)
  have R0_4 := hid (R0_3.out.below hb3)
  have R1_4 := hid (R1_3.out.below hb3)
  have Rg_4 := hid (Rg_3.out.below hb3)
  have Rp_4 := hid (Rp_3.out.below hb3)
  have Rq_4 := hid (Rq_3.out.below hb3)
  have HB_4 : Hid (Below w.heap.size w w3) := HB_3.out.trans (hb3.mono HB_3.out.size)
  clear ltA cA0 cA1 cA2
  have ltA := XA_4.out.lt
  have cA0 := XA_4.out.cell 0 _ rfl
  have cA1 := XA_4.out.cell 1 _ rfl
  have cA2 := XA_4.out.cell 2 _ rfl
  clear hb3
  have hqn : qn = 1 := by have := hlen.out; omega
  have hqne := limbs_not_one hone.out (by omega)
  subst hqn
  obtain ⟨qb, qoff, rfl, hqlt⟩ := Rq_4.out.head (by omega)
  have qc0 := Rq_4.out.cell qb qoff rfl 0 (by omega)
  rw [Nat.add_zero] at qc0
  have hqb : (lm (limbs (q / Nat.gcd p q)) 0 == 1) = false := by rw [beq_eq_false_iff_ne]; exact hqne
  clear hqne
  go_wp2_with fail
  refine (ptold_any _ 1 qc (q / Nat.gcd p q) _ Rq_4.out (by omega)).mono ?_
  rintro e4 w4 ⟨rfl, hb4⟩
  have XA_5 := hid (XA_4.out.keep hb4)
  have R0_5 := hid (R0_4.out.below hb4)
  have R1_5 := hid (R1_4.out.below hb4)
  have Rg_5 := hid (Rg_4.out.below hb4)
  have Rp_5 := hid (Rp_4.out.below hb4)
  have Rq_5 := hid (Rq_4.out.below hb4)
  have HB_5 : Hid (Below w.heap.size w w4) := HB_4.out.trans (hb4.mono HB_4.out.size)
  clear ltA cA0 cA1 cA2
  have ltA := XA_5.out.lt
  have cA0 := XA_5.out.cell 0 _ rfl
  have cA1 := XA_5.out.cell 1 _ rfl
  have cA2 := XA_5.out.cell 2 _ rfl
  clear hb4
  go_wp2
  go_ret
  refine ⟨?_, HB_5.out⟩
  show Ending.returned (.string _) = _
  congr 2
  apply bytes_ext
  rw [txt_parts _ p q hp.out hq.out]
  simp [HO.out, ByteArray.data_append]

set_option maxHeartbeats 2000000 in
set_option maxRecDepth 20000 in
theorem ptext_true_one (ao bo : Option Addr) (n capa k capb : Nat) (p q : Nat) (w : World) (h1 : Row w ao n capa (limbs p)) (h2 : Row w bo k capb (limbs q)) (b1 : n ≤ 8000) (b2 : k ≤ 8000) (hp : Hid (p ≠ 0)) (hq : Hid (q ≠ 0)) (hone : Hid (q / Nat.gcd p q = 1)) :
    Calls Tryz.prog 40 #[.agg #[.bool true, .slice ao n capa, .slice bo k capb]] w fun e w' => e = .returned (.string ⟨(txt (mkRat (sg true p) q)).toArray⟩) ∧ Below w.heap.size w w' := by
  have hg0 : Hid (Nat.gcd p q ≠ 0) := by have := Nat.gcd_pos_of_pos_right p (show 0 < q by have := hq.out; omega); show _ ≠ _; omega
  have hn0 : ((n : Int) == 0) = false := by
    rw [beq_eq_false_iff_ne]; have h1 := limbs_ne_nil hp.out; have h2 := List.length_pos_iff.2 h1; have h3 := h1; have := ‹Row w ao n capa (limbs p)›.len; omega
  have HO := hone
  have XA_0 := hid (bx_new w #[.bool true, .slice ao n capa, .slice bo k capb] 83)
  have HB_0 := hid ((Below.refl _ w).alloc (Nat.le_refl _) (.cells #[.bool true, .slice ao n capa, .slice bo k capb] 83))
  have R0_0 := hid (h1.below HB_0.out)
  have R1_0 := hid (h2.below HB_0.out)
  have len0 := h1.len
  have len1 := h2.len
  clear h1 h2
  go_enter Tryz.func40, Tryz.ntmps40
  go_wp2_with fail
  refine (pcommon_any ao bo n capa k capb p q _ R0_0.out R1_0.out (by omega) (by omega) hp.out hq.out).mono ?_
  rintro e0 w0 ⟨v0, rfl, ⟨go, gn, gc, rfl, hr0, _⟩, hb0⟩
  have XA_1 := hid (XA_0.out.keep hb0)
  have R0_1 := hid (R0_0.out.below hb0)
  have R1_1 := hid (R1_0.out.below hb0)
  have HB_1 : Hid (Below w.heap.size w w0) := HB_0.out.trans (hb0.mono HB_0.out.size)
  have ltA := XA_1.out.lt
  have cA0 := XA_1.out.cell 0 _ rfl
  have cA1 := XA_1.out.cell 1 _ rfl
  have cA2 := XA_1.out.cell 2 _ rfl
  have Rg_1 := hid hr0
  have leng := hr0.len
  have bdg : gn ≤ 8000 := by rw [← leng]; exact Nat.le_trans (len_mono (Nat.gcd_le_left q (by have := hp.out; omega))) (by omega)
  clear hb0 hr0
  go_wp2_with fail
  refine (pover_any ao go n capa gn gc p (Nat.gcd p q) _ R0_1.out Rg_1.out (by omega) (by omega) hg0.out).mono ?_
  rintro e1 w1 ⟨u1, v1, rfl, ⟨po, pn, pc, rfl, hr1, _⟩, ⟨pro, prn, prc, rfl, hs1, _⟩, hb1⟩
  have XA_2 := hid (XA_1.out.keep hb1)
  have R0_2 := hid (R0_1.out.below hb1)
  have R1_2 := hid (R1_1.out.below hb1)
  have Rg_2 := hid (Rg_1.out.below hb1)
  have HB_2 : Hid (Below w.heap.size w w1) := HB_1.out.trans (hb1.mono HB_1.out.size)
  clear ltA cA0 cA1 cA2
  have ltA := XA_2.out.lt
  have cA0 := XA_2.out.cell 0 _ rfl
  have cA1 := XA_2.out.cell 1 _ rfl
  have cA2 := XA_2.out.cell 2 _ rfl
  have Rp_2 := hid hr1
  have lenp := hr1.len
  have bdp : pn ≤ 8000 := by rw [← lenp]; exact Nat.le_trans (len_mono (Nat.div_le_self _ _)) (by omega)
  clear hb1 hr1 hs1
  go_wp2_with fail
  refine (pover_any bo go k capb gn gc q (Nat.gcd p q) _ R1_2.out Rg_2.out (by omega) (by omega) hg0.out).mono ?_
  rintro e2 w2 ⟨u2, v2, rfl, ⟨qo, qn, qc, rfl, hr2, _⟩, ⟨qro, qrn, qrc, rfl, hs2, _⟩, hb2⟩
  have XA_3 := hid (XA_2.out.keep hb2)
  have R0_3 := hid (R0_2.out.below hb2)
  have R1_3 := hid (R1_2.out.below hb2)
  have Rg_3 := hid (Rg_2.out.below hb2)
  have Rp_3 := hid (Rp_2.out.below hb2)
  have HB_3 : Hid (Below w.heap.size w w2) := HB_2.out.trans (hb2.mono HB_2.out.size)
  clear ltA cA0 cA1 cA2
  have ltA := XA_3.out.lt
  have cA0 := XA_3.out.cell 0 _ rfl
  have cA1 := XA_3.out.cell 1 _ rfl
  have cA2 := XA_3.out.cell 2 _ rfl
  have Rq_3 := hid hr2
  have lenq := hr2.len
  have bdq : qn ≤ 8000 := by rw [← lenq]; exact Nat.le_trans (len_mono (Nat.div_le_self _ _)) (by omega)
  clear hb2 hr2 hs2
  have hl0 : (decDigits (p / Nat.gcd p q)).length ≤ 200000 := Nat.le_trans (dec_len_of _ pn lenp) (by omega)
  have hl1 : (decDigits (q / Nat.gcd p q)).length ≤ 200000 := Nat.le_trans (dec_len_of _ qn lenq) (by omega)
  go_wp2_with fail
  refine (ptold_any po pn pc (p / Nat.gcd p q) _ Rp_3.out (by omega)).mono ?_
  rintro e3 w3 ⟨rfl, hb3⟩
  have XA_4 := hid (XA_3.out.keep hb3)
  have R0_4 := hid (R0_3.out.below hb3)
  have R1_4 := hid (R1_3.out.below hb3)
  have Rg_4 := hid (Rg_3.out.below hb3)
  have Rp_4 := hid (Rp_3.out.below hb3)
  have Rq_4 := hid (Rq_3.out.below hb3)
  have HB_4 : Hid (Below w.heap.size w w3) := HB_3.out.trans (hb3.mono HB_3.out.size)
  clear ltA cA0 cA1 cA2
  have ltA := XA_4.out.lt
  have cA0 := XA_4.out.cell 0 _ rfl
  have cA1 := XA_4.out.cell 1 _ rfl
  have cA2 := XA_4.out.cell 2 _ rfl
  clear hb3
  have hq1 := limbs_is_one hone.out
  have hqn : qn = 1 := by omega
  subst hqn
  obtain ⟨qb, qoff, rfl, hqlt⟩ := Rq_4.out.head (by omega)
  have qc0 := Rq_4.out.cell qb qoff rfl 0 (by omega)
  rw [hq1.2] at qc0
  rw [Nat.add_zero] at qc0
  clear hq1
  go_wp2
  go_ret
  refine ⟨?_, HB_4.out⟩
  show Ending.returned (.string _) = _
  congr 2
  apply bytes_ext
  rw [txt_parts _ p q hp.out hq.out]
  simp [HO.out, ByteArray.data_append]

set_option maxHeartbeats 2000000 in
set_option maxRecDepth 20000 in
theorem ptext_true_long (ao bo : Option Addr) (n capa k capb : Nat) (p q : Nat) (w : World) (h1 : Row w ao n capa (limbs p)) (h2 : Row w bo k capb (limbs q)) (b1 : n ≤ 8000) (b2 : k ≤ 8000) (hp : Hid (p ≠ 0)) (hq : Hid (q ≠ 0)) (hone : Hid ((limbs (q / Nat.gcd p q)).length ≠ 1)) :
    Calls Tryz.prog 40 #[.agg #[.bool true, .slice ao n capa, .slice bo k capb]] w fun e w' => e = .returned (.string ⟨(txt (mkRat (sg true p) q)).toArray⟩) ∧ Below w.heap.size w w' := by
  have hg0 : Hid (Nat.gcd p q ≠ 0) := by have := Nat.gcd_pos_of_pos_right p (show 0 < q by have := hq.out; omega); show _ ≠ _; omega
  have hn0 : ((n : Int) == 0) = false := by
    rw [beq_eq_false_iff_ne]; have h1 := limbs_ne_nil hp.out; have h2 := List.length_pos_iff.2 h1; have h3 := h1; have := ‹Row w ao n capa (limbs p)›.len; omega
  have HO : Hid (¬ q / Nat.gcd p q = 1) := fun h => hone.out (by rw [h, limbs_one]; rfl)
  have XA_0 := hid (bx_new w #[.bool true, .slice ao n capa, .slice bo k capb] 83)
  have HB_0 := hid ((Below.refl _ w).alloc (Nat.le_refl _) (.cells #[.bool true, .slice ao n capa, .slice bo k capb] 83))
  have R0_0 := hid (h1.below HB_0.out)
  have R1_0 := hid (h2.below HB_0.out)
  have len0 := h1.len
  have len1 := h2.len
  clear h1 h2
  go_enter Tryz.func40, Tryz.ntmps40
  go_wp2_with fail
  refine (pcommon_any ao bo n capa k capb p q _ R0_0.out R1_0.out (by omega) (by omega) hp.out hq.out).mono ?_
  rintro e0 w0 ⟨v0, rfl, ⟨go, gn, gc, rfl, hr0, _⟩, hb0⟩
  have XA_1 := hid (XA_0.out.keep hb0)
  have R0_1 := hid (R0_0.out.below hb0)
  have R1_1 := hid (R1_0.out.below hb0)
  have HB_1 : Hid (Below w.heap.size w w0) := HB_0.out.trans (hb0.mono HB_0.out.size)
  have ltA := XA_1.out.lt
  have cA0 := XA_1.out.cell 0 _ rfl
  have cA1 := XA_1.out.cell 1 _ rfl
  have cA2 := XA_1.out.cell 2 _ rfl
  have Rg_1 := hid hr0
  have leng := hr0.len
  have bdg : gn ≤ 8000 := by rw [← leng]; exact Nat.le_trans (len_mono (Nat.gcd_le_left q (by have := hp.out; omega))) (by omega)
  clear hb0 hr0
  go_wp2_with fail
  refine (pover_any ao go n capa gn gc p (Nat.gcd p q) _ R0_1.out Rg_1.out (by omega) (by omega) hg0.out).mono ?_
  rintro e1 w1 ⟨u1, v1, rfl, ⟨po, pn, pc, rfl, hr1, _⟩, ⟨pro, prn, prc, rfl, hs1, _⟩, hb1⟩
  have XA_2 := hid (XA_1.out.keep hb1)
  have R0_2 := hid (R0_1.out.below hb1)
  have R1_2 := hid (R1_1.out.below hb1)
  have Rg_2 := hid (Rg_1.out.below hb1)
  have HB_2 : Hid (Below w.heap.size w w1) := HB_1.out.trans (hb1.mono HB_1.out.size)
  clear ltA cA0 cA1 cA2
  have ltA := XA_2.out.lt
  have cA0 := XA_2.out.cell 0 _ rfl
  have cA1 := XA_2.out.cell 1 _ rfl
  have cA2 := XA_2.out.cell 2 _ rfl
  have Rp_2 := hid hr1
  have lenp := hr1.len
  have bdp : pn ≤ 8000 := by rw [← lenp]; exact Nat.le_trans (len_mono (Nat.div_le_self _ _)) (by omega)
  clear hb1 hr1 hs1
  go_wp2_with fail
  refine (pover_any bo go k capb gn gc q (Nat.gcd p q) _ R1_2.out Rg_2.out (by omega) (by omega) hg0.out).mono ?_
  rintro e2 w2 ⟨u2, v2, rfl, ⟨qo, qn, qc, rfl, hr2, _⟩, ⟨qro, qrn, qrc, rfl, hs2, _⟩, hb2⟩
  have XA_3 := hid (XA_2.out.keep hb2)
  have R0_3 := hid (R0_2.out.below hb2)
  have R1_3 := hid (R1_2.out.below hb2)
  have Rg_3 := hid (Rg_2.out.below hb2)
  have Rp_3 := hid (Rp_2.out.below hb2)
  have HB_3 : Hid (Below w.heap.size w w2) := HB_2.out.trans (hb2.mono HB_2.out.size)
  clear ltA cA0 cA1 cA2
  have ltA := XA_3.out.lt
  have cA0 := XA_3.out.cell 0 _ rfl
  have cA1 := XA_3.out.cell 1 _ rfl
  have cA2 := XA_3.out.cell 2 _ rfl
  have Rq_3 := hid hr2
  have lenq := hr2.len
  have bdq : qn ≤ 8000 := by rw [← lenq]; exact Nat.le_trans (len_mono (Nat.div_le_self _ _)) (by omega)
  clear hb2 hr2 hs2
  have hl0 : (decDigits (p / Nat.gcd p q)).length ≤ 200000 := Nat.le_trans (dec_len_of _ pn lenp) (by omega)
  have hl1 : (decDigits (q / Nat.gcd p q)).length ≤ 200000 := Nat.le_trans (dec_len_of _ qn lenq) (by omega)
  go_wp2_with fail
  refine (ptold_any po pn pc (p / Nat.gcd p q) _ Rp_3.out (by omega)).mono ?_
  rintro e3 w3 ⟨rfl, hb3⟩
  have XA_4 := hid (XA_3.out.keep hb3)
  have R0_4 := hid (R0_3.out.below hb3)
  have R1_4 := hid (R1_3.out.below hb3)
  have Rg_4 := hid (Rg_3.out.below hb3)
  have Rp_4 := hid (Rp_3.out.below hb3)
  have Rq_4 := hid (Rq_3.out.below hb3)
  have HB_4 : Hid (Below w.heap.size w w3) := HB_3.out.trans (hb3.mono HB_3.out.size)
  clear ltA cA0 cA1 cA2
  have ltA := XA_4.out.lt
  have cA0 := XA_4.out.cell 0 _ rfl
  have cA1 := XA_4.out.cell 1 _ rfl
  have cA2 := XA_4.out.cell 2 _ rfl
  clear hb3
  have hqn : ((qn : Int) == 1) = false := by rw [beq_eq_false_iff_ne]; have := hone.out; omega
  go_wp2_with fail
  refine (ptold_any qo qn qc (q / Nat.gcd p q) _ Rq_4.out (by omega)).mono ?_
  rintro e4 w4 ⟨rfl, hb4⟩
  have XA_5 := hid (XA_4.out.keep hb4)
  have R0_5 := hid (R0_4.out.below hb4)
  have R1_5 := hid (R1_4.out.below hb4)
  have Rg_5 := hid (Rg_4.out.below hb4)
  have Rp_5 := hid (Rp_4.out.below hb4)
  have Rq_5 := hid (Rq_4.out.below hb4)
  have HB_5 : Hid (Below w.heap.size w w4) := HB_4.out.trans (hb4.mono HB_4.out.size)
  clear ltA cA0 cA1 cA2
  have ltA := XA_5.out.lt
  have cA0 := XA_5.out.cell 0 _ rfl
  have cA1 := XA_5.out.cell 1 _ rfl
  have cA2 := XA_5.out.cell 2 _ rfl
  clear hb4
  go_wp2
  go_ret
  refine ⟨?_, HB_5.out⟩
  show Ending.returned (.string _) = _
  congr 2
  apply bytes_ext
  rw [txt_parts _ p q hp.out hq.out]
  simp [HO.out, ByteArray.data_append]

set_option maxHeartbeats 2000000 in
set_option maxRecDepth 20000 in
theorem ptext_true_short (ao bo : Option Addr) (n capa k capb : Nat) (p q : Nat) (w : World) (h1 : Row w ao n capa (limbs p)) (h2 : Row w bo k capb (limbs q)) (b1 : n ≤ 8000) (b2 : k ≤ 8000) (hp : Hid (p ≠ 0)) (hq : Hid (q ≠ 0)) (hone : Hid (q / Nat.gcd p q ≠ 1)) (hlen : Hid ((limbs (q / Nat.gcd p q)).length = 1)) :
    Calls Tryz.prog 40 #[.agg #[.bool true, .slice ao n capa, .slice bo k capb]] w fun e w' => e = .returned (.string ⟨(txt (mkRat (sg true p) q)).toArray⟩) ∧ Below w.heap.size w w' := by
  have hg0 : Hid (Nat.gcd p q ≠ 0) := by have := Nat.gcd_pos_of_pos_right p (show 0 < q by have := hq.out; omega); show _ ≠ _; omega
  have hn0 : ((n : Int) == 0) = false := by
    rw [beq_eq_false_iff_ne]; have h1 := limbs_ne_nil hp.out; have h2 := List.length_pos_iff.2 h1; have h3 := h1; have := ‹Row w ao n capa (limbs p)›.len; omega
  have HO : Hid (¬ q / Nat.gcd p q = 1) := hone.out
  have XA_0 := hid (bx_new w #[.bool true, .slice ao n capa, .slice bo k capb] 83)
  have HB_0 := hid ((Below.refl _ w).alloc (Nat.le_refl _) (.cells #[.bool true, .slice ao n capa, .slice bo k capb] 83))
  have R0_0 := hid (h1.below HB_0.out)
  have R1_0 := hid (h2.below HB_0.out)
  have len0 := h1.len
  have len1 := h2.len
  clear h1 h2
  go_enter Tryz.func40, Tryz.ntmps40
  go_wp2_with fail
  refine (pcommon_any ao bo n capa k capb p q _ R0_0.out R1_0.out (by omega) (by omega) hp.out hq.out).mono ?_
  rintro e0 w0 ⟨v0, rfl, ⟨go, gn, gc, rfl, hr0, _⟩, hb0⟩
  have XA_1 := hid (XA_0.out.keep hb0)
  have R0_1 := hid (R0_0.out.below hb0)
  have R1_1 := hid (R1_0.out.below hb0)
  have HB_1 : Hid (Below w.heap.size w w0) := HB_0.out.trans (hb0.mono HB_0.out.size)
  have ltA := XA_1.out.lt
  have cA0 := XA_1.out.cell 0 _ rfl
  have cA1 := XA_1.out.cell 1 _ rfl
  have cA2 := XA_1.out.cell 2 _ rfl
  have Rg_1 := hid hr0
  have leng := hr0.len
  have bdg : gn ≤ 8000 := by rw [← leng]; exact Nat.le_trans (len_mono (Nat.gcd_le_left q (by have := hp.out; omega))) (by omega)
  clear hb0 hr0
  go_wp2_with fail
  refine (pover_any ao go n capa gn gc p (Nat.gcd p q) _ R0_1.out Rg_1.out (by omega) (by omega) hg0.out).mono ?_
  rintro e1 w1 ⟨u1, v1, rfl, ⟨po, pn, pc, rfl, hr1, _⟩, ⟨pro, prn, prc, rfl, hs1, _⟩, hb1⟩
  have XA_2 := hid (XA_1.out.keep hb1)
  have R0_2 := hid (R0_1.out.below hb1)
  have R1_2 := hid (R1_1.out.below hb1)
  have Rg_2 := hid (Rg_1.out.below hb1)
  have HB_2 : Hid (Below w.heap.size w w1) := HB_1.out.trans (hb1.mono HB_1.out.size)
  clear ltA cA0 cA1 cA2
  have ltA := XA_2.out.lt
  have cA0 := XA_2.out.cell 0 _ rfl
  have cA1 := XA_2.out.cell 1 _ rfl
  have cA2 := XA_2.out.cell 2 _ rfl
  have Rp_2 := hid hr1
  have lenp := hr1.len
  have bdp : pn ≤ 8000 := by rw [← lenp]; exact Nat.le_trans (len_mono (Nat.div_le_self _ _)) (by omega)
  clear hb1 hr1 hs1
  go_wp2_with fail
  refine (pover_any bo go k capb gn gc q (Nat.gcd p q) _ R1_2.out Rg_2.out (by omega) (by omega) hg0.out).mono ?_
  rintro e2 w2 ⟨u2, v2, rfl, ⟨qo, qn, qc, rfl, hr2, _⟩, ⟨qro, qrn, qrc, rfl, hs2, _⟩, hb2⟩
  have XA_3 := hid (XA_2.out.keep hb2)
  have R0_3 := hid (R0_2.out.below hb2)
  have R1_3 := hid (R1_2.out.below hb2)
  have Rg_3 := hid (Rg_2.out.below hb2)
  have Rp_3 := hid (Rp_2.out.below hb2)
  have HB_3 : Hid (Below w.heap.size w w2) := HB_2.out.trans (hb2.mono HB_2.out.size)
  clear ltA cA0 cA1 cA2
  have ltA := XA_3.out.lt
  have cA0 := XA_3.out.cell 0 _ rfl
  have cA1 := XA_3.out.cell 1 _ rfl
  have cA2 := XA_3.out.cell 2 _ rfl
  have Rq_3 := hid hr2
  have lenq := hr2.len
  have bdq : qn ≤ 8000 := by rw [← lenq]; exact Nat.le_trans (len_mono (Nat.div_le_self _ _)) (by omega)
  clear hb2 hr2 hs2
  have hl0 : (decDigits (p / Nat.gcd p q)).length ≤ 200000 := Nat.le_trans (dec_len_of _ pn lenp) (by omega)
  have hl1 : (decDigits (q / Nat.gcd p q)).length ≤ 200000 := Nat.le_trans (dec_len_of _ qn lenq) (by omega)
  go_wp2_with fail
  refine (ptold_any po pn pc (p / Nat.gcd p q) _ Rp_3.out (by omega)).mono ?_
  rintro e3 w3 ⟨rfl, hb3⟩
  have XA_4 := hid (XA_3.out.keep hb3)
  have R0_4 := hid (R0_3.out.below hb3)
  have R1_4 := hid (R1_3.out.below hb3)
  have Rg_4 := hid (Rg_3.out.below hb3)
  have Rp_4 := hid (Rp_3.out.below hb3)
  have Rq_4 := hid (Rq_3.out.below hb3)
  have HB_4 : Hid (Below w.heap.size w w3) := HB_3.out.trans (hb3.mono HB_3.out.size)
  clear ltA cA0 cA1 cA2
  have ltA := XA_4.out.lt
  have cA0 := XA_4.out.cell 0 _ rfl
  have cA1 := XA_4.out.cell 1 _ rfl
  have cA2 := XA_4.out.cell 2 _ rfl
  clear hb3
  have hqn : qn = 1 := by have := hlen.out; omega
  have hqne := limbs_not_one hone.out (by omega)
  subst hqn
  obtain ⟨qb, qoff, rfl, hqlt⟩ := Rq_4.out.head (by omega)
  have qc0 := Rq_4.out.cell qb qoff rfl 0 (by omega)
  rw [Nat.add_zero] at qc0
  have hqb : (lm (limbs (q / Nat.gcd p q)) 0 == 1) = false := by rw [beq_eq_false_iff_ne]; exact hqne
  clear hqne
  go_wp2_with fail
  refine (ptold_any _ 1 qc (q / Nat.gcd p q) _ Rq_4.out (by omega)).mono ?_
  rintro e4 w4 ⟨rfl, hb4⟩
  have XA_5 := hid (XA_4.out.keep hb4)
  have R0_5 := hid (R0_4.out.below hb4)
  have R1_5 := hid (R1_4.out.below hb4)
  have Rg_5 := hid (Rg_4.out.below hb4)
  have Rp_5 := hid (Rp_4.out.below hb4)
  have Rq_5 := hid (Rq_4.out.below hb4)
  have HB_5 : Hid (Below w.heap.size w w4) := HB_4.out.trans (hb4.mono HB_4.out.size)
  clear ltA cA0 cA1 cA2
  have ltA := XA_5.out.lt
  have cA0 := XA_5.out.cell 0 _ rfl
  have cA1 := XA_5.out.cell 1 _ rfl
  have cA2 := XA_5.out.cell 2 _ rfl
  clear hb4
  go_wp2
  go_ret
  refine ⟨?_, HB_5.out⟩
  show Ending.returned (.string _) = _
  congr 2
  apply bytes_ext
  rw [txt_parts _ p q hp.out hq.out]
  simp [HO.out, ByteArray.data_append]

theorem ptext_any (m : Bool) (ao bo : Option Addr) (n capa k capb : Nat) (p q : Nat) (w : World) (h1 : Row w ao n capa (limbs p)) (h2 : Row w bo k capb (limbs q)) (b1 : n ≤ 8000) (b2 : k ≤ 8000) (hq : q ≠ 0) :
    Calls Tryz.prog 40 #[.agg #[.bool m, .slice ao n capa, .slice bo k capb]] w fun e w' => e = .returned (.string ⟨(txt (mkRat (sg m p) q)).toArray⟩) ∧ Below w.heap.size w w' := by
  by_cases hp : p = 0
  · have hn : n = 0 := by rw [← h1.len, hp]; rfl
    rw [hp, txt_none]
    exact ptext_zero m ao bo n capa k capb p q w h1 h2 b1 b2 hn
  · by_cases h : q / Nat.gcd p q = 1
    · cases m
      · exact ptext_false_one ao bo n capa k capb p q w h1 h2 b1 b2 hp hq h
      · exact ptext_true_one ao bo n capa k capb p q w h1 h2 b1 b2 hp hq h
    · by_cases hl : (limbs (q / Nat.gcd p q)).length = 1
      · cases m
        · exact ptext_false_short ao bo n capa k capb p q w h1 h2 b1 b2 hp hq h hl
        · exact ptext_true_short ao bo n capa k capb p q w h1 h2 b1 b2 hp hq h hl
      · cases m
        · exact ptext_false_long ao bo n capa k capb p q w h1 h2 b1 b2 hp hq hl
        · exact ptext_true_long ao bo n capa k capb p q w h1 h2 b1 b2 hp hq hl
end Go.Proofs.YtigokanoflkinaaGreatDoor

/- portionref.sum: the sum of any two fractions of the reference. (Laid by mkrefs.py.) -/
namespace Go.Proofs.YtigokanoflkinaaGreatDoor
set_option linter.unusedSimpArgs false
set_option linter.unusedVariables false
open Go.RowKit Por
theorem Bx.set1 {w : World} {b : Nat} {x0 x1 x2 : Value} {T : TypeId} (h : Bx w b #[x0, x1, x2] T) (u : Value) : Bx (w.setCell ⟨b, 1, none⟩ u) b #[x0, u, x2] T := by
  unfold Bx
  rw [heap_setCell_same w b 1 _ _ u h]; rfl

end Go.Proofs.YtigokanoflkinaaGreatDoor

/- What portionref.Read needs. (Laid by mkrefr.py.) -/
namespace Go.Proofs.YtigokanoflkinaaGreatDoor
set_option linter.unusedSimpArgs false
set_option linter.unusedVariables false
open Go.RowKit Por

theorem Bx.set2 {w : World} {b : Nat} {x0 x1 x2 : Value} {T : TypeId} (h : Bx w b #[x0, x1, x2] T) (u : Value) : Bx (w.setCell ⟨b, 2, none⟩ u) b #[x0, x1, u] T := by
  unfold Bx
  rw [heap_setCell_same w b 2 _ _ u h]; rfl
end Go.Proofs.YtigokanoflkinaaGreatDoor

/- portionref.Read, of texts with no minus: no fraction, 0, a whole number. (Laid by mkrefr.py.) -/
namespace Go.Proofs.YtigokanoflkinaaGreatDoor
set_option linter.unusedSimpArgs false
set_option linter.unusedVariables false
open Go.RowKit Por
end Go.Proofs.YtigokanoflkinaaGreatDoor

/- portionref.Read, of texts with no minus: the others. (Laid by mkrefr.py.) -/
namespace Go.Proofs.YtigokanoflkinaaGreatDoor
set_option linter.unusedSimpArgs false
set_option linter.unusedVariables false
open Go.RowKit Por
end Go.Proofs.YtigokanoflkinaaGreatDoor

/- portionref.Read, of texts with a minus: no fraction, 0, a whole number. (Laid by mkrefr.py.) -/
namespace Go.Proofs.YtigokanoflkinaaGreatDoor
set_option linter.unusedSimpArgs false
set_option linter.unusedVariables false
open Go.RowKit Por
end Go.Proofs.YtigokanoflkinaaGreatDoor

/- portionref.Read, of texts with a minus: the others. (Laid by mkrefr.py.) -/
namespace Go.Proofs.YtigokanoflkinaaGreatDoor
set_option linter.unusedSimpArgs false
set_option linter.unusedVariables false
open Go.RowKit Por
end Go.Proofs.YtigokanoflkinaaGreatDoor
