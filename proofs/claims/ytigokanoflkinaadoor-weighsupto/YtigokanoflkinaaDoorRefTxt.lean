/- RefJ, RefK, RefL, RefLa, RefLb, RefMa, RefMb, joined. -/
import Derived.Test.YtigokanoflkinaaDoorRefMid
import Derived.Test.YtigokanoflkinaaDoorWRat
import Derived.Test.YtigokanoflkinaaDoorRefBas
import Derived.Test.YtigokanoflkinaaDoorWPrs
/- portionref.Text: the one text of any fraction of the reference. (Laid by mkreft.py.) -/
namespace Go.Proofs.YtigokanoflkinaaDoor
set_option linter.unusedSimpArgs false
set_option linter.unusedVariables false
open Go.RowKit Por
open Go.Lib (decDigits)

theorem txt_parts (m : Bool) (p q : Nat) (hp : p ≠ 0) (hq : q ≠ 0) :
    txt (mkRat (sg m p) q) = (if m then [45] else []) ++ decDigits (p / Nat.gcd p q) ++ (if q / Nat.gcd p q = 1 then [] else 47 :: decDigits (q / Nat.gcd p q)) := by
  obtain ⟨h1, h2, h3⟩ := low_eq m p q hq
  have hg : 0 < Nat.gcd p q := Nat.gcd_pos_of_pos_right p (by omega)
  have hp1 : p / Nat.gcd p q ≠ 0 := by
    have := Nat.div_pos (Nat.le_of_dvd (by omega) (Nat.gcd_dvd_left p q)) hg
    omega
  have hq1 : 0 < q / Nat.gcd p q := Nat.div_pos (Nat.le_of_dvd (by omega) (Nat.gcd_dvd_right p q)) hg
  unfold txt
  rw [h1, h2, h3]
  have e : (m && !(p / Nat.gcd p q == 0)) = m := by
    rw [show (p / Nat.gcd p q == 0) = false from beq_eq_false_iff_ne.2 hp1]; simp
  rw [e]
  congr 1
  by_cases h : q / Nat.gcd p q = 1
  · rw [if_pos h, if_neg (by omega)]
  · rw [if_neg h, if_pos (by omega)]
theorem txt_none (m : Bool) (q : Nat) : txt (mkRat (sg m 0) q) = [48] := by
  have e : mkRat (sg m 0) q = 0 := by
    have : sg m 0 = 0 := by cases m <;> rfl
    rw [this]; exact Rat.zero_mkRat q
  rw [e]
  have h1 : negB (0 : Rat) = false := rfl
  unfold txt
  rw [h1]
  show [] ++ decDigits 0 ++ [] = _
  rw [dec_small (by omega)]; rfl
theorem limbs_is_one {z : Nat} (h : z = 1) : (limbs z).length = 1 ∧ lm (limbs z) 0 = 1 := by subst h; rw [limbs_one]; exact ⟨rfl, rfl⟩
theorem limbs_not_one {z : Nat} (h : z ≠ 1) (hl : (limbs z).length = 1) : lm (limbs z) 0 ≠ 1 := by
  intro hc
  apply h
  have h1 := val_limbs z
  have h2 : limbs z = [lm (limbs z) 0] := by
    match hz : limbs z, hl with
    | [a], _ => rfl
  rw [h2, hc] at h1
  simp [val] at h1
  omega

set_option maxHeartbeats 2000000 in
set_option maxRecDepth 20000 in
theorem ptext_zero (m : Bool) (ao bo : Option Addr) (n capa k capb : Nat) (p q : Nat) (w : World) (h1 : Row w ao n capa (limbs p)) (h2 : Row w bo k capb (limbs q)) (b1 : n ≤ 8000) (b2 : k ≤ 8000) (hn : n = 0) :
    Calls Tryd.prog 55 #[.agg #[.bool m, .slice ao n capa, .slice bo k capb]] w fun e w' => e = .returned (.string ⟨#[48]⟩) ∧ Below w.heap.size w w' := by
  subst hn
  have XA_0 := hid (bx_new w #[.bool m, .slice ao 0 capa, .slice bo k capb] 82)
  have HB_0 := hid ((Below.refl _ w).alloc (Nat.le_refl _) (.cells #[.bool m, .slice ao 0 capa, .slice bo k capb] 82))
  have R0_0 := hid (h1.below HB_0.out)
  have R1_0 := hid (h2.below HB_0.out)
  have len0 := h1.len
  have len1 := h2.len
  clear h1 h2
  go_enter Tryd.func55, Tryd.ntmps55
  go_wp2
  go_ret
  exact ⟨rfl, HB_0.out⟩

set_option maxHeartbeats 2000000 in
set_option maxRecDepth 20000 in
theorem ptext_false_one (ao bo : Option Addr) (n capa k capb : Nat) (p q : Nat) (w : World) (h1 : Row w ao n capa (limbs p)) (h2 : Row w bo k capb (limbs q)) (b1 : n ≤ 8000) (b2 : k ≤ 8000) (hp : Hid (p ≠ 0)) (hq : Hid (q ≠ 0)) (hone : Hid (q / Nat.gcd p q = 1)) :
    Calls Tryd.prog 55 #[.agg #[.bool false, .slice ao n capa, .slice bo k capb]] w fun e w' => e = .returned (.string ⟨(txt (mkRat (sg false p) q)).toArray⟩) ∧ Below w.heap.size w w' := by
  have hg0 : Hid (Nat.gcd p q ≠ 0) := by have := Nat.gcd_pos_of_pos_right p (show 0 < q by have := hq.out; omega); show _ ≠ _; omega
  have hn0 : ((n : Int) == 0) = false := by
    rw [beq_eq_false_iff_ne]; have h1 := limbs_ne_nil hp.out; have h2 := List.length_pos_iff.2 h1; have h3 := h1; have := ‹Row w ao n capa (limbs p)›.len; omega
  have HO := hone
  have XA_0 := hid (bx_new w #[.bool false, .slice ao n capa, .slice bo k capb] 82)
  have HB_0 := hid ((Below.refl _ w).alloc (Nat.le_refl _) (.cells #[.bool false, .slice ao n capa, .slice bo k capb] 82))
  have R0_0 := hid (h1.below HB_0.out)
  have R1_0 := hid (h2.below HB_0.out)
  have len0 := h1.len
  have len1 := h2.len
  clear h1 h2
  go_enter Tryd.func55, Tryd.ntmps55
  go_wp2_with fail
  refine (pcommon_any ao bo n capa k capb p q _ R0_0.out R1_0.out (by omega) (by omega) hp.out hq.out).mono ?_
  rintro e0 w0 ⟨v0, rfl, ⟨go, gn, gc, rfl, hr0, _⟩, hb0⟩
  have XA_1 := hid (XA_0.out.keep hb0)
  have R0_1 := hid (R0_0.out.below hb0)
  have R1_1 := hid (R1_0.out.below hb0)
  have HB_1 : Hid (Below w.heap.size w w0) := HB_0.out.trans (hb0.mono HB_0.out.size)
  have ltA := XA_1.out.lt
  have cA0 := XA_1.out.cell 0 _ rfl
  have cA1 := XA_1.out.cell 1 _ rfl
  have cA2 := XA_1.out.cell 2 _ rfl
  have Rg_1 := hid hr0
  have leng := hr0.len
  have bdg : gn ≤ 8000 := by rw [← leng]; exact Nat.le_trans (len_mono (Nat.gcd_le_left q (by have := hp.out; omega))) (by omega)
  clear hb0 hr0
  go_wp2_with fail
  refine (pover_any ao go n capa gn gc p (Nat.gcd p q) _ R0_1.out Rg_1.out (by omega) (by omega) hg0.out).mono ?_
  rintro e1 w1 ⟨u1, v1, rfl, ⟨po, pn, pc, rfl, hr1, _⟩, ⟨pro, prn, prc, rfl, hs1, _⟩, hb1⟩
  have XA_2 := hid (XA_1.out.keep hb1)
  have R0_2 := hid (R0_1.out.below hb1)
  have R1_2 := hid (R1_1.out.below hb1)
  have Rg_2 := hid (Rg_1.out.below hb1)
  have HB_2 : Hid (Below w.heap.size w w1) := HB_1.out.trans (hb1.mono HB_1.out.size)
  clear ltA cA0 cA1 cA2
  have ltA := XA_2.out.lt
  have cA0 := XA_2.out.cell 0 _ rfl
  have cA1 := XA_2.out.cell 1 _ rfl
  have cA2 := XA_2.out.cell 2 _ rfl
  have Rp_2 := hid hr1
  have lenp := hr1.len
  have bdp : pn ≤ 8000 := by rw [← lenp]; exact Nat.le_trans (len_mono (Nat.div_le_self _ _)) (by omega)
  clear hb1 hr1 hs1
  go_wp2_with fail
  refine (pover_any bo go k capb gn gc q (Nat.gcd p q) _ R1_2.out Rg_2.out (by omega) (by omega) hg0.out).mono ?_
  rintro e2 w2 ⟨u2, v2, rfl, ⟨qo, qn, qc, rfl, hr2, _⟩, ⟨qro, qrn, qrc, rfl, hs2, _⟩, hb2⟩
  have XA_3 := hid (XA_2.out.keep hb2)
  have R0_3 := hid (R0_2.out.below hb2)
  have R1_3 := hid (R1_2.out.below hb2)
  have Rg_3 := hid (Rg_2.out.below hb2)
  have Rp_3 := hid (Rp_2.out.below hb2)
  have HB_3 : Hid (Below w.heap.size w w2) := HB_2.out.trans (hb2.mono HB_2.out.size)
  clear ltA cA0 cA1 cA2
  have ltA := XA_3.out.lt
  have cA0 := XA_3.out.cell 0 _ rfl
  have cA1 := XA_3.out.cell 1 _ rfl
  have cA2 := XA_3.out.cell 2 _ rfl
  have Rq_3 := hid hr2
  have lenq := hr2.len
  have bdq : qn ≤ 8000 := by rw [← lenq]; exact Nat.le_trans (len_mono (Nat.div_le_self _ _)) (by omega)
  clear hb2 hr2 hs2
  have hl0 : (decDigits (p / Nat.gcd p q)).length ≤ 200000 := Nat.le_trans (dec_len_of _ pn lenp) (by omega)
  have hl1 : (decDigits (q / Nat.gcd p q)).length ≤ 200000 := Nat.le_trans (dec_len_of _ qn lenq) (by omega)
  go_wp2_with fail
  refine (ptold_any po pn pc (p / Nat.gcd p q) _ Rp_3.out (by omega)).mono ?_
  rintro e3 w3 ⟨rfl, hb3⟩
  have XA_4 := hid (XA_3.out.keep hb3)
  have R0_4 := hid (R0_3.out.below hb3)
  have R1_4 := hid (R1_3.out.below hb3)
  have Rg_4 := hid (Rg_3.out.below hb3)
  have Rp_4 := hid (Rp_3.out.below hb3)
  have Rq_4 := hid (Rq_3.out.below hb3)
  have HB_4 : Hid (Below w.heap.size w w3) := HB_3.out.trans (hb3.mono HB_3.out.size)
  clear ltA cA0 cA1 cA2
  have ltA := XA_4.out.lt
  have cA0 := XA_4.out.cell 0 _ rfl
  have cA1 := XA_4.out.cell 1 _ rfl
  have cA2 := XA_4.out.cell 2 _ rfl
  clear hb3
  have hq1 := limbs_is_one hone.out
  have hqn : qn = 1 := by omega
  subst hqn
  obtain ⟨qb, qoff, rfl, hqlt⟩ := Rq_4.out.head (by omega)
  have qc0 := Rq_4.out.cell qb qoff rfl 0 (by omega)
  rw [hq1.2] at qc0
  rw [Nat.add_zero] at qc0
  clear hq1
  go_wp2
  go_ret
  refine ⟨?_, HB_4.out⟩
  show Ending.returned (.string _) = _
  congr 2
  apply bytes_ext
  rw [txt_parts _ p q hp.out hq.out]
  simp [HO.out, ByteArray.data_append]

set_option maxHeartbeats 2000000 in
set_option maxRecDepth 20000 in
theorem ptext_false_long (ao bo : Option Addr) (n capa k capb : Nat) (p q : Nat) (w : World) (h1 : Row w ao n capa (limbs p)) (h2 : Row w bo k capb (limbs q)) (b1 : n ≤ 8000) (b2 : k ≤ 8000) (hp : Hid (p ≠ 0)) (hq : Hid (q ≠ 0)) (hone : Hid ((limbs (q / Nat.gcd p q)).length ≠ 1)) :
    Calls Tryd.prog 55 #[.agg #[.bool false, .slice ao n capa, .slice bo k capb]] w fun e w' => e = .returned (.string ⟨(txt (mkRat (sg false p) q)).toArray⟩) ∧ Below w.heap.size w w' := by
  have hg0 : Hid (Nat.gcd p q ≠ 0) := by have := Nat.gcd_pos_of_pos_right p (show 0 < q by have := hq.out; omega); show _ ≠ _; omega
  have hn0 : ((n : Int) == 0) = false := by
    rw [beq_eq_false_iff_ne]; have h1 := limbs_ne_nil hp.out; have h2 := List.length_pos_iff.2 h1; have h3 := h1; have := ‹Row w ao n capa (limbs p)›.len; omega
  have HO : Hid (¬ q / Nat.gcd p q = 1) := fun h => hone.out (by rw [h, limbs_one]; rfl)
  have XA_0 := hid (bx_new w #[.bool false, .slice ao n capa, .slice bo k capb] 82)
  have HB_0 := hid ((Below.refl _ w).alloc (Nat.le_refl _) (.cells #[.bool false, .slice ao n capa, .slice bo k capb] 82))
  have R0_0 := hid (h1.below HB_0.out)
  have R1_0 := hid (h2.below HB_0.out)
  have len0 := h1.len
  have len1 := h2.len
  clear h1 h2
  go_enter Tryd.func55, Tryd.ntmps55
  go_wp2_with fail
  refine (pcommon_any ao bo n capa k capb p q _ R0_0.out R1_0.out (by omega) (by omega) hp.out hq.out).mono ?_
  rintro e0 w0 ⟨v0, rfl, ⟨go, gn, gc, rfl, hr0, _⟩, hb0⟩
  have XA_1 := hid (XA_0.out.keep hb0)
  have R0_1 := hid (R0_0.out.below hb0)
  have R1_1 := hid (R1_0.out.below hb0)
  have HB_1 : Hid (Below w.heap.size w w0) := HB_0.out.trans (hb0.mono HB_0.out.size)
  have ltA := XA_1.out.lt
  have cA0 := XA_1.out.cell 0 _ rfl
  have cA1 := XA_1.out.cell 1 _ rfl
  have cA2 := XA_1.out.cell 2 _ rfl
  have Rg_1 := hid hr0
  have leng := hr0.len
  have bdg : gn ≤ 8000 := by rw [← leng]; exact Nat.le_trans (len_mono (Nat.gcd_le_left q (by have := hp.out; omega))) (by omega)
  clear hb0 hr0
  go_wp2_with fail
  refine (pover_any ao go n capa gn gc p (Nat.gcd p q) _ R0_1.out Rg_1.out (by omega) (by omega) hg0.out).mono ?_
  rintro e1 w1 ⟨u1, v1, rfl, ⟨po, pn, pc, rfl, hr1, _⟩, ⟨pro, prn, prc, rfl, hs1, _⟩, hb1⟩
  have XA_2 := hid (XA_1.out.keep hb1)
  have R0_2 := hid (R0_1.out.below hb1)
  have R1_2 := hid (R1_1.out.below hb1)
  have Rg_2 := hid (Rg_1.out.below hb1)
  have HB_2 : Hid (Below w.heap.size w w1) := HB_1.out.trans (hb1.mono HB_1.out.size)
  clear ltA cA0 cA1 cA2
  have ltA := XA_2.out.lt
  have cA0 := XA_2.out.cell 0 _ rfl
  have cA1 := XA_2.out.cell 1 _ rfl
  have cA2 := XA_2.out.cell 2 _ rfl
  have Rp_2 := hid hr1
  have lenp := hr1.len
  have bdp : pn ≤ 8000 := by rw [← lenp]; exact Nat.le_trans (len_mono (Nat.div_le_self _ _)) (by omega)
  clear hb1 hr1 hs1
  go_wp2_with fail
  refine (pover_any bo go k capb gn gc q (Nat.gcd p q) _ R1_2.out Rg_2.out (by omega) (by omega) hg0.out).mono ?_
  rintro e2 w2 ⟨u2, v2, rfl, ⟨qo, qn, qc, rfl, hr2, _⟩, ⟨qro, qrn, qrc, rfl, hs2, _⟩, hb2⟩
  have XA_3 := hid (XA_2.out.keep hb2)
  have R0_3 := hid (R0_2.out.below hb2)
  have R1_3 := hid (R1_2.out.below hb2)
  have Rg_3 := hid (Rg_2.out.below hb2)
  have Rp_3 := hid (Rp_2.out.below hb2)
  have HB_3 : Hid (Below w.heap.size w w2) := HB_2.out.trans (hb2.mono HB_2.out.size)
  clear ltA cA0 cA1 cA2
  have ltA := XA_3.out.lt
  have cA0 := XA_3.out.cell 0 _ rfl
  have cA1 := XA_3.out.cell 1 _ rfl
  have cA2 := XA_3.out.cell 2 _ rfl
  have Rq_3 := hid hr2
  have lenq := hr2.len
  have bdq : qn ≤ 8000 := by rw [← lenq]; exact Nat.le_trans (len_mono (Nat.div_le_self _ _)) (by omega)
  clear hb2 hr2 hs2
  have hl0 : (decDigits (p / Nat.gcd p q)).length ≤ 200000 := Nat.le_trans (dec_len_of _ pn lenp) (by omega)
  have hl1 : (decDigits (q / Nat.gcd p q)).length ≤ 200000 := Nat.le_trans (dec_len_of _ qn lenq) (by omega)
  go_wp2_with fail
  refine (ptold_any po pn pc (p / Nat.gcd p q) _ Rp_3.out (by omega)).mono ?_
  rintro e3 w3 ⟨rfl, hb3⟩
  have XA_4 := hid (XA_3.out.keep hb3)
  have R0_4 := hid (R0_3.out.below hb3)
  have R1_4 := hid (R1_3.out.below hb3)
  have Rg_4 := hid (Rg_3.out.below hb3)
  have Rp_4 := hid (Rp_3.out.below hb3)
  have Rq_4 := hid (Rq_3.out.below hb3)
  have HB_4 : Hid (Below w.heap.size w w3) := HB_3.out.trans (hb3.mono HB_3.out.size)
  clear ltA cA0 cA1 cA2
  have ltA := XA_4.out.lt
  have cA0 := XA_4.out.cell 0 _ rfl
  have cA1 := XA_4.out.cell 1 _ rfl
  have cA2 := XA_4.out.cell 2 _ rfl
  clear hb3
  have hqn : ((qn : Int) == 1) = false := by rw [beq_eq_false_iff_ne]; have := hone.out; omega
  go_wp2_with fail
  refine (ptold_any qo qn qc (q / Nat.gcd p q) _ Rq_4.out (by omega)).mono ?_
  rintro e4 w4 ⟨rfl, hb4⟩
  have XA_5 := hid (XA_4.out.keep hb4)
  have R0_5 := hid (R0_4.out.below hb4)
  have R1_5 := hid (R1_4.out.below hb4)
  have Rg_5 := hid (Rg_4.out.below hb4)
  have Rp_5 := hid (Rp_4.out.below hb4)
  have Rq_5 := hid (Rq_4.out.below hb4)
  have HB_5 : Hid (Below w.heap.size w w4) := HB_4.out.trans (hb4.mono HB_4.out.size)
  clear ltA cA0 cA1 cA2
  have ltA := XA_5.out.lt
  have cA0 := XA_5.out.cell 0 _ rfl
  have cA1 := XA_5.out.cell 1 _ rfl
  have cA2 := XA_5.out.cell 2 _ rfl
  clear hb4
  go_wp2
  go_ret
  refine ⟨?_, HB_5.out⟩
  show Ending.returned (.string _) = _
  congr 2
  apply bytes_ext
  rw [txt_parts _ p q hp.out hq.out]
  simp [HO.out, ByteArray.data_append]

set_option maxHeartbeats 2000000 in
set_option maxRecDepth 20000 in
theorem ptext_false_short (ao bo : Option Addr) (n capa k capb : Nat) (p q : Nat) (w : World) (h1 : Row w ao n capa (limbs p)) (h2 : Row w bo k capb (limbs q)) (b1 : n ≤ 8000) (b2 : k ≤ 8000) (hp : Hid (p ≠ 0)) (hq : Hid (q ≠ 0)) (hone : Hid (q / Nat.gcd p q ≠ 1)) (hlen : Hid ((limbs (q / Nat.gcd p q)).length = 1)) :
    Calls Tryd.prog 55 #[.agg #[.bool false, .slice ao n capa, .slice bo k capb]] w fun e w' => e = .returned (.string ⟨(txt (mkRat (sg false p) q)).toArray⟩) ∧ Below w.heap.size w w' := by
  have hg0 : Hid (Nat.gcd p q ≠ 0) := by have := Nat.gcd_pos_of_pos_right p (show 0 < q by have := hq.out; omega); show _ ≠ _; omega
  have hn0 : ((n : Int) == 0) = false := by
    rw [beq_eq_false_iff_ne]; have h1 := limbs_ne_nil hp.out; have h2 := List.length_pos_iff.2 h1; have h3 := h1; have := ‹Row w ao n capa (limbs p)›.len; omega
  have HO : Hid (¬ q / Nat.gcd p q = 1) := hone.out
  have XA_0 := hid (bx_new w #[.bool false, .slice ao n capa, .slice bo k capb] 82)
  have HB_0 := hid ((Below.refl _ w).alloc (Nat.le_refl _) (.cells #[.bool false, .slice ao n capa, .slice bo k capb] 82))
  have R0_0 := hid (h1.below HB_0.out)
  have R1_0 := hid (h2.below HB_0.out)
  have len0 := h1.len
  have len1 := h2.len
  clear h1 h2
  go_enter Tryd.func55, Tryd.ntmps55
  go_wp2_with fail
  refine (pcommon_any ao bo n capa k capb p q _ R0_0.out R1_0.out (by omega) (by omega) hp.out hq.out).mono ?_
  rintro e0 w0 ⟨v0, rfl, ⟨go, gn, gc, rfl, hr0, _⟩, hb0⟩
  have XA_1 := hid (XA_0.out.keep hb0)
  have R0_1 := hid (R0_0.out.below hb0)
  have R1_1 := hid (R1_0.out.below hb0)
  have HB_1 : Hid (Below w.heap.size w w0) := HB_0.out.trans (hb0.mono HB_0.out.size)
  have ltA := XA_1.out.lt
  have cA0 := XA_1.out.cell 0 _ rfl
  have cA1 := XA_1.out.cell 1 _ rfl
  have cA2 := XA_1.out.cell 2 _ rfl
  have Rg_1 := hid hr0
  have leng := hr0.len
  have bdg : gn ≤ 8000 := by rw [← leng]; exact Nat.le_trans (len_mono (Nat.gcd_le_left q (by have := hp.out; omega))) (by omega)
  clear hb0 hr0
  go_wp2_with fail
  refine (pover_any ao go n capa gn gc p (Nat.gcd p q) _ R0_1.out Rg_1.out (by omega) (by omega) hg0.out).mono ?_
  rintro e1 w1 ⟨u1, v1, rfl, ⟨po, pn, pc, rfl, hr1, _⟩, ⟨pro, prn, prc, rfl, hs1, _⟩, hb1⟩
  have XA_2 := hid (XA_1.out.keep hb1)
  have R0_2 := hid (R0_1.out.below hb1)
  have R1_2 := hid (R1_1.out.below hb1)
  have Rg_2 := hid (Rg_1.out.below hb1)
  have HB_2 : Hid (Below w.heap.size w w1) := HB_1.out.trans (hb1.mono HB_1.out.size)
  clear ltA cA0 cA1 cA2
  have ltA := XA_2.out.lt
  have cA0 := XA_2.out.cell 0 _ rfl
  have cA1 := XA_2.out.cell 1 _ rfl
  have cA2 := XA_2.out.cell 2 _ rfl
  have Rp_2 := hid hr1
  have lenp := hr1.len
  have bdp : pn ≤ 8000 := by rw [← lenp]; exact Nat.le_trans (len_mono (Nat.div_le_self _ _)) (by omega)
  clear hb1 hr1 hs1
  go_wp2_with fail
  refine (pover_any bo go k capb gn gc q (Nat.gcd p q) _ R1_2.out Rg_2.out (by omega) (by omega) hg0.out).mono ?_
  rintro e2 w2 ⟨u2, v2, rfl, ⟨qo, qn, qc, rfl, hr2, _⟩, ⟨qro, qrn, qrc, rfl, hs2, _⟩, hb2⟩
  have XA_3 := hid (XA_2.out.keep hb2)
  have R0_3 := hid (R0_2.out.below hb2)
  have R1_3 := hid (R1_2.out.below hb2)
  have Rg_3 := hid (Rg_2.out.below hb2)
  have Rp_3 := hid (Rp_2.out.below hb2)
  have HB_3 : Hid (Below w.heap.size w w2) := HB_2.out.trans (hb2.mono HB_2.out.size)
  clear ltA cA0 cA1 cA2
  have ltA := XA_3.out.lt
  have cA0 := XA_3.out.cell 0 _ rfl
  have cA1 := XA_3.out.cell 1 _ rfl
  have cA2 := XA_3.out.cell 2 _ rfl
  have Rq_3 := hid hr2
  have lenq := hr2.len
  have bdq : qn ≤ 8000 := by rw [← lenq]; exact Nat.le_trans (len_mono (Nat.div_le_self _ _)) (by omega)
  clear hb2 hr2 hs2
  have hl0 : (decDigits (p / Nat.gcd p q)).length ≤ 200000 := Nat.le_trans (dec_len_of _ pn lenp) (by omega)
  have hl1 : (decDigits (q / Nat.gcd p q)).length ≤ 200000 := Nat.le_trans (dec_len_of _ qn lenq) (by omega)
  go_wp2_with fail
  refine (ptold_any po pn pc (p / Nat.gcd p q) _ Rp_3.out (by omega)).mono ?_
  rintro e3 w3 ⟨rfl, hb3⟩
  have XA_4 := hid (XA_3.out.keep hb3)
  have R0_4 := hid (R0_3.out.below hb3)
  have R1_4 := hid (R1_3.out.below hb3)
  have Rg_4 := hid (Rg_3.out.below hb3)
  have Rp_4 := hid (Rp_3.out.below hb3)
  have Rq_4 := hid (Rq_3.out.below hb3)
  have HB_4 : Hid (Below w.heap.size w w3) := HB_3.out.trans (hb3.mono HB_3.out.size)
  clear ltA cA0 cA1 cA2
  have ltA := XA_4.out.lt
  have cA0 := XA_4.out.cell 0 _ rfl
  have cA1 := XA_4.out.cell 1 _ rfl
  have cA2 := XA_4.out.cell 2 _ rfl
  clear hb3
  have hqn : qn = 1 := by have := hlen.out; omega
  have hqne := limbs_not_one hone.out (by omega)
  subst hqn
  obtain ⟨qb, qoff, rfl, hqlt⟩ := Rq_4.out.head (by omega)
  have qc0 := Rq_4.out.cell qb qoff rfl 0 (by omega)
  rw [Nat.add_zero] at qc0
  have hqb : (lm (limbs (q / Nat.gcd p q)) 0 == 1) = false := by rw [beq_eq_false_iff_ne]; exact hqne
  clear hqne
  go_wp2_with fail
  refine (ptold_any _ 1 qc (q / Nat.gcd p q) _ Rq_4.out (by omega)).mono ?_
  rintro e4 w4 ⟨rfl, hb4⟩
  have XA_5 := hid (XA_4.out.keep hb4)
  have R0_5 := hid (R0_4.out.below hb4)
  have R1_5 := hid (R1_4.out.below hb4)
  have Rg_5 := hid (Rg_4.out.below hb4)
  have Rp_5 := hid (Rp_4.out.below hb4)
  have Rq_5 := hid (Rq_4.out.below hb4)
  have HB_5 : Hid (Below w.heap.size w w4) := HB_4.out.trans (hb4.mono HB_4.out.size)
  clear ltA cA0 cA1 cA2
  have ltA := XA_5.out.lt
  have cA0 := XA_5.out.cell 0 _ rfl
  have cA1 := XA_5.out.cell 1 _ rfl
  have cA2 := XA_5.out.cell 2 _ rfl
  clear hb4
  go_wp2
  go_ret
  refine ⟨?_, HB_5.out⟩
  show Ending.returned (.string _) = _
  congr 2
  apply bytes_ext
  rw [txt_parts _ p q hp.out hq.out]
  simp [HO.out, ByteArray.data_append]

set_option maxHeartbeats 2000000 in
set_option maxRecDepth 20000 in
theorem ptext_true_one (ao bo : Option Addr) (n capa k capb : Nat) (p q : Nat) (w : World) (h1 : Row w ao n capa (limbs p)) (h2 : Row w bo k capb (limbs q)) (b1 : n ≤ 8000) (b2 : k ≤ 8000) (hp : Hid (p ≠ 0)) (hq : Hid (q ≠ 0)) (hone : Hid (q / Nat.gcd p q = 1)) :
    Calls Tryd.prog 55 #[.agg #[.bool true, .slice ao n capa, .slice bo k capb]] w fun e w' => e = .returned (.string ⟨(txt (mkRat (sg true p) q)).toArray⟩) ∧ Below w.heap.size w w' := by
  have hg0 : Hid (Nat.gcd p q ≠ 0) := by have := Nat.gcd_pos_of_pos_right p (show 0 < q by have := hq.out; omega); show _ ≠ _; omega
  have hn0 : ((n : Int) == 0) = false := by
    rw [beq_eq_false_iff_ne]; have h1 := limbs_ne_nil hp.out; have h2 := List.length_pos_iff.2 h1; have h3 := h1; have := ‹Row w ao n capa (limbs p)›.len; omega
  have HO := hone
  have XA_0 := hid (bx_new w #[.bool true, .slice ao n capa, .slice bo k capb] 82)
  have HB_0 := hid ((Below.refl _ w).alloc (Nat.le_refl _) (.cells #[.bool true, .slice ao n capa, .slice bo k capb] 82))
  have R0_0 := hid (h1.below HB_0.out)
  have R1_0 := hid (h2.below HB_0.out)
  have len0 := h1.len
  have len1 := h2.len
  clear h1 h2
  go_enter Tryd.func55, Tryd.ntmps55
  go_wp2_with fail
  refine (pcommon_any ao bo n capa k capb p q _ R0_0.out R1_0.out (by omega) (by omega) hp.out hq.out).mono ?_
  rintro e0 w0 ⟨v0, rfl, ⟨go, gn, gc, rfl, hr0, _⟩, hb0⟩
  have XA_1 := hid (XA_0.out.keep hb0)
  have R0_1 := hid (R0_0.out.below hb0)
  have R1_1 := hid (R1_0.out.below hb0)
  have HB_1 : Hid (Below w.heap.size w w0) := HB_0.out.trans (hb0.mono HB_0.out.size)
  have ltA := XA_1.out.lt
  have cA0 := XA_1.out.cell 0 _ rfl
  have cA1 := XA_1.out.cell 1 _ rfl
  have cA2 := XA_1.out.cell 2 _ rfl
  have Rg_1 := hid hr0
  have leng := hr0.len
  have bdg : gn ≤ 8000 := by rw [← leng]; exact Nat.le_trans (len_mono (Nat.gcd_le_left q (by have := hp.out; omega))) (by omega)
  clear hb0 hr0
  go_wp2_with fail
  refine (pover_any ao go n capa gn gc p (Nat.gcd p q) _ R0_1.out Rg_1.out (by omega) (by omega) hg0.out).mono ?_
  rintro e1 w1 ⟨u1, v1, rfl, ⟨po, pn, pc, rfl, hr1, _⟩, ⟨pro, prn, prc, rfl, hs1, _⟩, hb1⟩
  have XA_2 := hid (XA_1.out.keep hb1)
  have R0_2 := hid (R0_1.out.below hb1)
  have R1_2 := hid (R1_1.out.below hb1)
  have Rg_2 := hid (Rg_1.out.below hb1)
  have HB_2 : Hid (Below w.heap.size w w1) := HB_1.out.trans (hb1.mono HB_1.out.size)
  clear ltA cA0 cA1 cA2
  have ltA := XA_2.out.lt
  have cA0 := XA_2.out.cell 0 _ rfl
  have cA1 := XA_2.out.cell 1 _ rfl
  have cA2 := XA_2.out.cell 2 _ rfl
  have Rp_2 := hid hr1
  have lenp := hr1.len
  have bdp : pn ≤ 8000 := by rw [← lenp]; exact Nat.le_trans (len_mono (Nat.div_le_self _ _)) (by omega)
  clear hb1 hr1 hs1
  go_wp2_with fail
  refine (pover_any bo go k capb gn gc q (Nat.gcd p q) _ R1_2.out Rg_2.out (by omega) (by omega) hg0.out).mono ?_
  rintro e2 w2 ⟨u2, v2, rfl, ⟨qo, qn, qc, rfl, hr2, _⟩, ⟨qro, qrn, qrc, rfl, hs2, _⟩, hb2⟩
  have XA_3 := hid (XA_2.out.keep hb2)
  have R0_3 := hid (R0_2.out.below hb2)
  have R1_3 := hid (R1_2.out.below hb2)
  have Rg_3 := hid (Rg_2.out.below hb2)
  have Rp_3 := hid (Rp_2.out.below hb2)
  have HB_3 : Hid (Below w.heap.size w w2) := HB_2.out.trans (hb2.mono HB_2.out.size)
  clear ltA cA0 cA1 cA2
  have ltA := XA_3.out.lt
  have cA0 := XA_3.out.cell 0 _ rfl
  have cA1 := XA_3.out.cell 1 _ rfl
  have cA2 := XA_3.out.cell 2 _ rfl
  have Rq_3 := hid hr2
  have lenq := hr2.len
  have bdq : qn ≤ 8000 := by rw [← lenq]; exact Nat.le_trans (len_mono (Nat.div_le_self _ _)) (by omega)
  clear hb2 hr2 hs2
  have hl0 : (decDigits (p / Nat.gcd p q)).length ≤ 200000 := Nat.le_trans (dec_len_of _ pn lenp) (by omega)
  have hl1 : (decDigits (q / Nat.gcd p q)).length ≤ 200000 := Nat.le_trans (dec_len_of _ qn lenq) (by omega)
  go_wp2_with fail
  refine (ptold_any po pn pc (p / Nat.gcd p q) _ Rp_3.out (by omega)).mono ?_
  rintro e3 w3 ⟨rfl, hb3⟩
  have XA_4 := hid (XA_3.out.keep hb3)
  have R0_4 := hid (R0_3.out.below hb3)
  have R1_4 := hid (R1_3.out.below hb3)
  have Rg_4 := hid (Rg_3.out.below hb3)
  have Rp_4 := hid (Rp_3.out.below hb3)
  have Rq_4 := hid (Rq_3.out.below hb3)
  have HB_4 : Hid (Below w.heap.size w w3) := HB_3.out.trans (hb3.mono HB_3.out.size)
  clear ltA cA0 cA1 cA2
  have ltA := XA_4.out.lt
  have cA0 := XA_4.out.cell 0 _ rfl
  have cA1 := XA_4.out.cell 1 _ rfl
  have cA2 := XA_4.out.cell 2 _ rfl
  clear hb3
  have hq1 := limbs_is_one hone.out
  have hqn : qn = 1 := by omega
  subst hqn
  obtain ⟨qb, qoff, rfl, hqlt⟩ := Rq_4.out.head (by omega)
  have qc0 := Rq_4.out.cell qb qoff rfl 0 (by omega)
  rw [hq1.2] at qc0
  rw [Nat.add_zero] at qc0
  clear hq1
  go_wp2
  go_ret
  refine ⟨?_, HB_4.out⟩
  show Ending.returned (.string _) = _
  congr 2
  apply bytes_ext
  rw [txt_parts _ p q hp.out hq.out]
  simp [HO.out, ByteArray.data_append]

set_option maxHeartbeats 2000000 in
set_option maxRecDepth 20000 in
theorem ptext_true_long (ao bo : Option Addr) (n capa k capb : Nat) (p q : Nat) (w : World) (h1 : Row w ao n capa (limbs p)) (h2 : Row w bo k capb (limbs q)) (b1 : n ≤ 8000) (b2 : k ≤ 8000) (hp : Hid (p ≠ 0)) (hq : Hid (q ≠ 0)) (hone : Hid ((limbs (q / Nat.gcd p q)).length ≠ 1)) :
    Calls Tryd.prog 55 #[.agg #[.bool true, .slice ao n capa, .slice bo k capb]] w fun e w' => e = .returned (.string ⟨(txt (mkRat (sg true p) q)).toArray⟩) ∧ Below w.heap.size w w' := by
  have hg0 : Hid (Nat.gcd p q ≠ 0) := by have := Nat.gcd_pos_of_pos_right p (show 0 < q by have := hq.out; omega); show _ ≠ _; omega
  have hn0 : ((n : Int) == 0) = false := by
    rw [beq_eq_false_iff_ne]; have h1 := limbs_ne_nil hp.out; have h2 := List.length_pos_iff.2 h1; have h3 := h1; have := ‹Row w ao n capa (limbs p)›.len; omega
  have HO : Hid (¬ q / Nat.gcd p q = 1) := fun h => hone.out (by rw [h, limbs_one]; rfl)
  have XA_0 := hid (bx_new w #[.bool true, .slice ao n capa, .slice bo k capb] 82)
  have HB_0 := hid ((Below.refl _ w).alloc (Nat.le_refl _) (.cells #[.bool true, .slice ao n capa, .slice bo k capb] 82))
  have R0_0 := hid (h1.below HB_0.out)
  have R1_0 := hid (h2.below HB_0.out)
  have len0 := h1.len
  have len1 := h2.len
  clear h1 h2
  go_enter Tryd.func55, Tryd.ntmps55
  go_wp2_with fail
  refine (pcommon_any ao bo n capa k capb p q _ R0_0.out R1_0.out (by omega) (by omega) hp.out hq.out).mono ?_
  rintro e0 w0 ⟨v0, rfl, ⟨go, gn, gc, rfl, hr0, _⟩, hb0⟩
  have XA_1 := hid (XA_0.out.keep hb0)
  have R0_1 := hid (R0_0.out.below hb0)
  have R1_1 := hid (R1_0.out.below hb0)
  have HB_1 : Hid (Below w.heap.size w w0) := HB_0.out.trans (hb0.mono HB_0.out.size)
  have ltA := XA_1.out.lt
  have cA0 := XA_1.out.cell 0 _ rfl
  have cA1 := XA_1.out.cell 1 _ rfl
  have cA2 := XA_1.out.cell 2 _ rfl
  have Rg_1 := hid hr0
  have leng := hr0.len
  have bdg : gn ≤ 8000 := by rw [← leng]; exact Nat.le_trans (len_mono (Nat.gcd_le_left q (by have := hp.out; omega))) (by omega)
  clear hb0 hr0
  go_wp2_with fail
  refine (pover_any ao go n capa gn gc p (Nat.gcd p q) _ R0_1.out Rg_1.out (by omega) (by omega) hg0.out).mono ?_
  rintro e1 w1 ⟨u1, v1, rfl, ⟨po, pn, pc, rfl, hr1, _⟩, ⟨pro, prn, prc, rfl, hs1, _⟩, hb1⟩
  have XA_2 := hid (XA_1.out.keep hb1)
  have R0_2 := hid (R0_1.out.below hb1)
  have R1_2 := hid (R1_1.out.below hb1)
  have Rg_2 := hid (Rg_1.out.below hb1)
  have HB_2 : Hid (Below w.heap.size w w1) := HB_1.out.trans (hb1.mono HB_1.out.size)
  clear ltA cA0 cA1 cA2
  have ltA := XA_2.out.lt
  have cA0 := XA_2.out.cell 0 _ rfl
  have cA1 := XA_2.out.cell 1 _ rfl
  have cA2 := XA_2.out.cell 2 _ rfl
  have Rp_2 := hid hr1
  have lenp := hr1.len
  have bdp : pn ≤ 8000 := by rw [← lenp]; exact Nat.le_trans (len_mono (Nat.div_le_self _ _)) (by omega)
  clear hb1 hr1 hs1
  go_wp2_with fail
  refine (pover_any bo go k capb gn gc q (Nat.gcd p q) _ R1_2.out Rg_2.out (by omega) (by omega) hg0.out).mono ?_
  rintro e2 w2 ⟨u2, v2, rfl, ⟨qo, qn, qc, rfl, hr2, _⟩, ⟨qro, qrn, qrc, rfl, hs2, _⟩, hb2⟩
  have XA_3 := hid (XA_2.out.keep hb2)
  have R0_3 := hid (R0_2.out.below hb2)
  have R1_3 := hid (R1_2.out.below hb2)
  have Rg_3 := hid (Rg_2.out.below hb2)
  have Rp_3 := hid (Rp_2.out.below hb2)
  have HB_3 : Hid (Below w.heap.size w w2) := HB_2.out.trans (hb2.mono HB_2.out.size)
  clear ltA cA0 cA1 cA2
  have ltA := XA_3.out.lt
  have cA0 := XA_3.out.cell 0 _ rfl
  have cA1 := XA_3.out.cell 1 _ rfl
  have cA2 := XA_3.out.cell 2 _ rfl
  have Rq_3 := hid hr2
  have lenq := hr2.len
  have bdq : qn ≤ 8000 := by rw [← lenq]; exact Nat.le_trans (len_mono (Nat.div_le_self _ _)) (by omega)
  clear hb2 hr2 hs2
  have hl0 : (decDigits (p / Nat.gcd p q)).length ≤ 200000 := Nat.le_trans (dec_len_of _ pn lenp) (by omega)
  have hl1 : (decDigits (q / Nat.gcd p q)).length ≤ 200000 := Nat.le_trans (dec_len_of _ qn lenq) (by omega)
  go_wp2_with fail
  refine (ptold_any po pn pc (p / Nat.gcd p q) _ Rp_3.out (by omega)).mono ?_
  rintro e3 w3 ⟨rfl, hb3⟩
  have XA_4 := hid (XA_3.out.keep hb3)
  have R0_4 := hid (R0_3.out.below hb3)
  have R1_4 := hid (R1_3.out.below hb3)
  have Rg_4 := hid (Rg_3.out.below hb3)
  have Rp_4 := hid (Rp_3.out.below hb3)
  have Rq_4 := hid (Rq_3.out.below hb3)
  have HB_4 : Hid (Below w.heap.size w w3) := HB_3.out.trans (hb3.mono HB_3.out.size)
  clear ltA cA0 cA1 cA2
  have ltA := XA_4.out.lt
  have cA0 := XA_4.out.cell 0 _ rfl
  have cA1 := XA_4.out.cell 1 _ rfl
  have cA2 := XA_4.out.cell 2 _ rfl
  clear hb3
  have hqn : ((qn : Int) == 1) = false := by rw [beq_eq_false_iff_ne]; have := hone.out; omega
  go_wp2_with fail
  refine (ptold_any qo qn qc (q / Nat.gcd p q) _ Rq_4.out (by omega)).mono ?_
  rintro e4 w4 ⟨rfl, hb4⟩
  have XA_5 := hid (XA_4.out.keep hb4)
  have R0_5 := hid (R0_4.out.below hb4)
  have R1_5 := hid (R1_4.out.below hb4)
  have Rg_5 := hid (Rg_4.out.below hb4)
  have Rp_5 := hid (Rp_4.out.below hb4)
  have Rq_5 := hid (Rq_4.out.below hb4)
  have HB_5 : Hid (Below w.heap.size w w4) := HB_4.out.trans (hb4.mono HB_4.out.size)
  clear ltA cA0 cA1 cA2
  have ltA := XA_5.out.lt
  have cA0 := XA_5.out.cell 0 _ rfl
  have cA1 := XA_5.out.cell 1 _ rfl
  have cA2 := XA_5.out.cell 2 _ rfl
  clear hb4
  go_wp2
  go_ret
  refine ⟨?_, HB_5.out⟩
  show Ending.returned (.string _) = _
  congr 2
  apply bytes_ext
  rw [txt_parts _ p q hp.out hq.out]
  simp [HO.out, ByteArray.data_append]

set_option maxHeartbeats 2000000 in
set_option maxRecDepth 20000 in
theorem ptext_true_short (ao bo : Option Addr) (n capa k capb : Nat) (p q : Nat) (w : World) (h1 : Row w ao n capa (limbs p)) (h2 : Row w bo k capb (limbs q)) (b1 : n ≤ 8000) (b2 : k ≤ 8000) (hp : Hid (p ≠ 0)) (hq : Hid (q ≠ 0)) (hone : Hid (q / Nat.gcd p q ≠ 1)) (hlen : Hid ((limbs (q / Nat.gcd p q)).length = 1)) :
    Calls Tryd.prog 55 #[.agg #[.bool true, .slice ao n capa, .slice bo k capb]] w fun e w' => e = .returned (.string ⟨(txt (mkRat (sg true p) q)).toArray⟩) ∧ Below w.heap.size w w' := by
  have hg0 : Hid (Nat.gcd p q ≠ 0) := by have := Nat.gcd_pos_of_pos_right p (show 0 < q by have := hq.out; omega); show _ ≠ _; omega
  have hn0 : ((n : Int) == 0) = false := by
    rw [beq_eq_false_iff_ne]; have h1 := limbs_ne_nil hp.out; have h2 := List.length_pos_iff.2 h1; have h3 := h1; have := ‹Row w ao n capa (limbs p)›.len; omega
  have HO : Hid (¬ q / Nat.gcd p q = 1) := hone.out
  have XA_0 := hid (bx_new w #[.bool true, .slice ao n capa, .slice bo k capb] 82)
  have HB_0 := hid ((Below.refl _ w).alloc (Nat.le_refl _) (.cells #[.bool true, .slice ao n capa, .slice bo k capb] 82))
  have R0_0 := hid (h1.below HB_0.out)
  have R1_0 := hid (h2.below HB_0.out)
  have len0 := h1.len
  have len1 := h2.len
  clear h1 h2
  go_enter Tryd.func55, Tryd.ntmps55
  go_wp2_with fail
  refine (pcommon_any ao bo n capa k capb p q _ R0_0.out R1_0.out (by omega) (by omega) hp.out hq.out).mono ?_
  rintro e0 w0 ⟨v0, rfl, ⟨go, gn, gc, rfl, hr0, _⟩, hb0⟩
  have XA_1 := hid (XA_0.out.keep hb0)
  have R0_1 := hid (R0_0.out.below hb0)
  have R1_1 := hid (R1_0.out.below hb0)
  have HB_1 : Hid (Below w.heap.size w w0) := HB_0.out.trans (hb0.mono HB_0.out.size)
  have ltA := XA_1.out.lt
  have cA0 := XA_1.out.cell 0 _ rfl
  have cA1 := XA_1.out.cell 1 _ rfl
  have cA2 := XA_1.out.cell 2 _ rfl
  have Rg_1 := hid hr0
  have leng := hr0.len
  have bdg : gn ≤ 8000 := by rw [← leng]; exact Nat.le_trans (len_mono (Nat.gcd_le_left q (by have := hp.out; omega))) (by omega)
  clear hb0 hr0
  go_wp2_with fail
  refine (pover_any ao go n capa gn gc p (Nat.gcd p q) _ R0_1.out Rg_1.out (by omega) (by omega) hg0.out).mono ?_
  rintro e1 w1 ⟨u1, v1, rfl, ⟨po, pn, pc, rfl, hr1, _⟩, ⟨pro, prn, prc, rfl, hs1, _⟩, hb1⟩
  have XA_2 := hid (XA_1.out.keep hb1)
  have R0_2 := hid (R0_1.out.below hb1)
  have R1_2 := hid (R1_1.out.below hb1)
  have Rg_2 := hid (Rg_1.out.below hb1)
  have HB_2 : Hid (Below w.heap.size w w1) := HB_1.out.trans (hb1.mono HB_1.out.size)
  clear ltA cA0 cA1 cA2
  have ltA := XA_2.out.lt
  have cA0 := XA_2.out.cell 0 _ rfl
  have cA1 := XA_2.out.cell 1 _ rfl
  have cA2 := XA_2.out.cell 2 _ rfl
  have Rp_2 := hid hr1
  have lenp := hr1.len
  have bdp : pn ≤ 8000 := by rw [← lenp]; exact Nat.le_trans (len_mono (Nat.div_le_self _ _)) (by omega)
  clear hb1 hr1 hs1
  go_wp2_with fail
  refine (pover_any bo go k capb gn gc q (Nat.gcd p q) _ R1_2.out Rg_2.out (by omega) (by omega) hg0.out).mono ?_
  rintro e2 w2 ⟨u2, v2, rfl, ⟨qo, qn, qc, rfl, hr2, _⟩, ⟨qro, qrn, qrc, rfl, hs2, _⟩, hb2⟩
  have XA_3 := hid (XA_2.out.keep hb2)
  have R0_3 := hid (R0_2.out.below hb2)
  have R1_3 := hid (R1_2.out.below hb2)
  have Rg_3 := hid (Rg_2.out.below hb2)
  have Rp_3 := hid (Rp_2.out.below hb2)
  have HB_3 : Hid (Below w.heap.size w w2) := HB_2.out.trans (hb2.mono HB_2.out.size)
  clear ltA cA0 cA1 cA2
  have ltA := XA_3.out.lt
  have cA0 := XA_3.out.cell 0 _ rfl
  have cA1 := XA_3.out.cell 1 _ rfl
  have cA2 := XA_3.out.cell 2 _ rfl
  have Rq_3 := hid hr2
  have lenq := hr2.len
  have bdq : qn ≤ 8000 := by rw [← lenq]; exact Nat.le_trans (len_mono (Nat.div_le_self _ _)) (by omega)
  clear hb2 hr2 hs2
  have hl0 : (decDigits (p / Nat.gcd p q)).length ≤ 200000 := Nat.le_trans (dec_len_of _ pn lenp) (by omega)
  have hl1 : (decDigits (q / Nat.gcd p q)).length ≤ 200000 := Nat.le_trans (dec_len_of _ qn lenq) (by omega)
  go_wp2_with fail
  refine (ptold_any po pn pc (p / Nat.gcd p q) _ Rp_3.out (by omega)).mono ?_
  rintro e3 w3 ⟨rfl, hb3⟩
  have XA_4 := hid (XA_3.out.keep hb3)
  have R0_4 := hid (R0_3.out.below hb3)
  have R1_4 := hid (R1_3.out.below hb3)
  have Rg_4 := hid (Rg_3.out.below hb3)
  have Rp_4 := hid (Rp_3.out.below hb3)
  have Rq_4 := hid (Rq_3.out.below hb3)
  have HB_4 : Hid (Below w.heap.size w w3) := HB_3.out.trans (hb3.mono HB_3.out.size)
  clear ltA cA0 cA1 cA2
  have ltA := XA_4.out.lt
  have cA0 := XA_4.out.cell 0 _ rfl
  have cA1 := XA_4.out.cell 1 _ rfl
  have cA2 := XA_4.out.cell 2 _ rfl
  clear hb3
  have hqn : qn = 1 := by have := hlen.out; omega
  have hqne := limbs_not_one hone.out (by omega)
  subst hqn
  obtain ⟨qb, qoff, rfl, hqlt⟩ := Rq_4.out.head (by omega)
  have qc0 := Rq_4.out.cell qb qoff rfl 0 (by omega)
  rw [Nat.add_zero] at qc0
  have hqb : (lm (limbs (q / Nat.gcd p q)) 0 == 1) = false := by rw [beq_eq_false_iff_ne]; exact hqne
  clear hqne
  go_wp2_with fail
  refine (ptold_any _ 1 qc (q / Nat.gcd p q) _ Rq_4.out (by omega)).mono ?_
  rintro e4 w4 ⟨rfl, hb4⟩
  have XA_5 := hid (XA_4.out.keep hb4)
  have R0_5 := hid (R0_4.out.below hb4)
  have R1_5 := hid (R1_4.out.below hb4)
  have Rg_5 := hid (Rg_4.out.below hb4)
  have Rp_5 := hid (Rp_4.out.below hb4)
  have Rq_5 := hid (Rq_4.out.below hb4)
  have HB_5 : Hid (Below w.heap.size w w4) := HB_4.out.trans (hb4.mono HB_4.out.size)
  clear ltA cA0 cA1 cA2
  have ltA := XA_5.out.lt
  have cA0 := XA_5.out.cell 0 _ rfl
  have cA1 := XA_5.out.cell 1 _ rfl
  have cA2 := XA_5.out.cell 2 _ rfl
  clear hb4
  go_wp2
  go_ret
  refine ⟨?_, HB_5.out⟩
  show Ending.returned (.string _) = _
  congr 2
  apply bytes_ext
  rw [txt_parts _ p q hp.out hq.out]
  simp [HO.out, ByteArray.data_append]

theorem ptext_any (m : Bool) (ao bo : Option Addr) (n capa k capb : Nat) (p q : Nat) (w : World) (h1 : Row w ao n capa (limbs p)) (h2 : Row w bo k capb (limbs q)) (b1 : n ≤ 8000) (b2 : k ≤ 8000) (hq : q ≠ 0) :
    Calls Tryd.prog 55 #[.agg #[.bool m, .slice ao n capa, .slice bo k capb]] w fun e w' => e = .returned (.string ⟨(txt (mkRat (sg m p) q)).toArray⟩) ∧ Below w.heap.size w w' := by
  by_cases hp : p = 0
  · have hn : n = 0 := by rw [← h1.len, hp]; rfl
    rw [hp, txt_none]
    exact ptext_zero m ao bo n capa k capb p q w h1 h2 b1 b2 hn
  · by_cases h : q / Nat.gcd p q = 1
    · cases m
      · exact ptext_false_one ao bo n capa k capb p q w h1 h2 b1 b2 hp hq h
      · exact ptext_true_one ao bo n capa k capb p q w h1 h2 b1 b2 hp hq h
    · by_cases hl : (limbs (q / Nat.gcd p q)).length = 1
      · cases m
        · exact ptext_false_short ao bo n capa k capb p q w h1 h2 b1 b2 hp hq h hl
        · exact ptext_true_short ao bo n capa k capb p q w h1 h2 b1 b2 hp hq h hl
      · cases m
        · exact ptext_false_long ao bo n capa k capb p q w h1 h2 b1 b2 hp hq hl
        · exact ptext_true_long ao bo n capa k capb p q w h1 h2 b1 b2 hp hq hl
end Go.Proofs.YtigokanoflkinaaDoor

/- portionref.sum: the sum of any two fractions of the reference. (Laid by mkrefs.py.) -/
namespace Go.Proofs.YtigokanoflkinaaDoor
set_option linter.unusedSimpArgs false
set_option linter.unusedVariables false
open Go.RowKit Por

/-- A fraction of the reference in memory: below 0 or not, p over q. -/
def PNv (w : World) (v : Value) (m : Bool) (p q : Nat) : Prop := ∃ ao n capa bo k capb, v = .agg #[.bool m, .slice ao n capa, .slice bo k capb] ∧ Row w ao n capa (limbs p) ∧ Row w bo k capb (limbs q)
theorem Bx.set0 {w : World} {b : Nat} {x0 x1 x2 : Value} {T : TypeId} (h : Bx w b #[x0, x1, x2] T) (u : Value) : Bx (w.setCell ⟨b, 0, none⟩ u) b #[u, x1, x2] T := by
  unfold Bx
  rw [heap_setCell_same w b 0 _ _ u h]; rfl
theorem Bx.set1 {w : World} {b : Nat} {x0 x1 x2 : Value} {T : TypeId} (h : Bx w b #[x0, x1, x2] T) (u : Value) : Bx (w.setCell ⟨b, 1, none⟩ u) b #[x0, u, x2] T := by
  unfold Bx
  rw [heap_setCell_same w b 1 _ _ u h]; rfl

set_option maxHeartbeats 2000000 in
set_option maxRecDepth 20000 in
theorem psum_ff_same (ao bo co eo : Option Addr) (n capa m capb p capc q capd : Nat) (p1 q1 p2 q2 : Nat) (w : World) (h1 : Row w ao n capa (limbs p1)) (h2 : Row w bo m capb (limbs q1)) (h3 : Row w co p capc (limbs p2)) (h4 : Row w eo q capd (limbs q2)) (b1 : n ≤ 1000) (b2 : m ≤ 1000) (b3 : p ≤ 1000) (b4 : q ≤ 1000) :
    Calls Tryd.prog 54 #[.agg #[.bool false, .slice ao n capa, .slice bo m capb], .agg #[.bool false, .slice co p capc, .slice eo q capd]] w fun e w' => ∃ v m z, e = .returned v ∧ sg m z = sg false (p1 * q2) + sg false (p2 * q1) ∧ z ≤ p1 * q2 + p2 * q1 ∧ PNv w' v m z (q1 * q2) ∧ Below w.heap.size w w' := by
  have hsg : Hid (sg false (p1 * q2 + p2 * q1) = sg false (p1 * q2) + sg false (p2 * q1)) := (sg_same _ _ _).symm
  obtain ⟨c1, c2, c3, c5⟩ := boxes3 w #[.bool false, .slice ao n capa, .slice bo m capb] #[.bool false, .slice co p capc, .slice eo q capd] #[.bool false, .slice none 0 0, .slice none 0 0] 82 82 82
  have R0_0 := hid (h1.below c5)
  have len0 := h1.len
  have R1_0 := hid (h2.below c5)
  have len1 := h2.len
  have R2_0 := hid (h3.below c5)
  have len2 := h3.len
  have R3_0 := hid (h4.below c5)
  have len3 := h4.len
  have XA_0 := hid c1
  have XB_0 := hid c2
  have XR_0 := hid c3
  have HB_0 := hid c5
  clear h1 h2 h3 h4 c1 c2 c3 c5
  go_enter Tryd.func54, Tryd.ntmps54
  go_wp2_with fail
  refine (ptimes_any ao eo n capa q capd p1 q2 _ R0_0.out R3_0.out (by omega) (by omega)).mono ?_
  rintro e0 w0 ⟨v0, rfl, ⟨uo, un, uc, rfl, hr0, _⟩, hb0⟩
  have XA_1 := hid (XA_0.out.keep hb0)
  have XB_1 := hid (XB_0.out.keep hb0)
  have XR_1 := hid (XR_0.out.keep hb0)
  have R0_1 := hid (R0_0.out.below hb0)
  have R1_1 := hid (R1_0.out.below hb0)
  have R2_1 := hid (R2_0.out.below hb0)
  have R3_1 := hid (R3_0.out.below hb0)
  have HB_1 : Hid (Below w.heap.size w w0) := HB_0.out.trans (hb0.mono HB_0.out.size)
  have ltA := XA_1.out.lt
  have cA0 := XA_1.out.cell 0 _ rfl
  have cA1 := XA_1.out.cell 1 _ rfl
  have cA2 := XA_1.out.cell 2 _ rfl
  have ltB := XB_1.out.lt
  have cB0 := XB_1.out.cell 0 _ rfl
  have cB1 := XB_1.out.cell 1 _ rfl
  have cB2 := XB_1.out.cell 2 _ rfl
  have ltR := XR_1.out.lt
  have cR0 := XR_1.out.cell 0 _ rfl
  have zR0 := XR_1.out.frozen 0
  have cR1 := XR_1.out.cell 1 _ rfl
  have zR1 := XR_1.out.frozen 1
  have cR2 := XR_1.out.cell 2 _ rfl
  have zR2 := XR_1.out.frozen 2
  have Ru_1 := hid hr0
  have lenu := hr0.len
  have bdu : un ≤ 2000 := by rw [← lenu]; exact Nat.le_trans (prod_len len0 len3) (by omega)
  clear hb0 hr0
  go_wp2_with fail
  refine (ptimes_any co bo p capc m capb p2 q1 _ R2_1.out R1_1.out (by omega) (by omega)).mono ?_
  rintro e1 w1 ⟨v1, rfl, ⟨vo, vn, vc, rfl, hr1, _⟩, hb1⟩
  have XA_2 := hid (XA_1.out.keep hb1)
  have XB_2 := hid (XB_1.out.keep hb1)
  have XR_2 := hid (XR_1.out.keep hb1)
  have R0_2 := hid (R0_1.out.below hb1)
  have R1_2 := hid (R1_1.out.below hb1)
  have R2_2 := hid (R2_1.out.below hb1)
  have R3_2 := hid (R3_1.out.below hb1)
  have Ru_2 := hid (Ru_1.out.below hb1)
  have HB_2 : Hid (Below w.heap.size w w1) := HB_1.out.trans (hb1.mono HB_1.out.size)
  clear ltA cA0 cA1 cA2 ltB cB0 cB1 cB2 ltR cR0 zR0 cR1 zR1 cR2 zR2
  have ltA := XA_2.out.lt
  have cA0 := XA_2.out.cell 0 _ rfl
  have cA1 := XA_2.out.cell 1 _ rfl
  have cA2 := XA_2.out.cell 2 _ rfl
  have ltB := XB_2.out.lt
  have cB0 := XB_2.out.cell 0 _ rfl
  have cB1 := XB_2.out.cell 1 _ rfl
  have cB2 := XB_2.out.cell 2 _ rfl
  have ltR := XR_2.out.lt
  have cR0 := XR_2.out.cell 0 _ rfl
  have zR0 := XR_2.out.frozen 0
  have cR1 := XR_2.out.cell 1 _ rfl
  have zR1 := XR_2.out.frozen 1
  have cR2 := XR_2.out.cell 2 _ rfl
  have zR2 := XR_2.out.frozen 2
  have Rv_2 := hid hr1
  have lenv := hr1.len
  have bdv : vn ≤ 2000 := by rw [← lenv]; exact Nat.le_trans (prod_len len2 len1) (by omega)
  clear hb1 hr1
  go_wp2_with fail
  refine (ptimes_any bo eo m capb q capd q1 q2 _ R1_2.out R3_2.out (by omega) (by omega)).mono ?_
  rintro e2 w2 ⟨v2, rfl, ⟨ko, kn, kc, rfl, hr2, _⟩, hb2⟩
  have XA_3 := hid (XA_2.out.keep hb2)
  have XB_3 := hid (XB_2.out.keep hb2)
  have XR_3 := hid (XR_2.out.keep hb2)
  have R0_3 := hid (R0_2.out.below hb2)
  have R1_3 := hid (R1_2.out.below hb2)
  have R2_3 := hid (R2_2.out.below hb2)
  have R3_3 := hid (R3_2.out.below hb2)
  have Ru_3 := hid (Ru_2.out.below hb2)
  have Rv_3 := hid (Rv_2.out.below hb2)
  have HB_3 : Hid (Below w.heap.size w w2) := HB_2.out.trans (hb2.mono HB_2.out.size)
  clear ltA cA0 cA1 cA2 ltB cB0 cB1 cB2 ltR cR0 zR0 cR1 zR1 cR2 zR2
  have ltA := XA_3.out.lt
  have cA0 := XA_3.out.cell 0 _ rfl
  have cA1 := XA_3.out.cell 1 _ rfl
  have cA2 := XA_3.out.cell 2 _ rfl
  have ltB := XB_3.out.lt
  have cB0 := XB_3.out.cell 0 _ rfl
  have cB1 := XB_3.out.cell 1 _ rfl
  have cB2 := XB_3.out.cell 2 _ rfl
  have ltR := XR_3.out.lt
  have cR0 := XR_3.out.cell 0 _ rfl
  have zR0 := XR_3.out.frozen 0
  have cR1 := XR_3.out.cell 1 _ rfl
  have zR1 := XR_3.out.frozen 1
  have cR2 := XR_3.out.cell 2 _ rfl
  have zR2 := XR_3.out.frozen 2
  have Rk_3 := hid hr2
  have lenk := hr2.len
  have bdk : kn ≤ 2000 := by rw [← lenk]; exact Nat.le_trans (prod_len len1 len3) (by omega)
  clear hb2 hr2
  have nA := XA_3.out.lt
  have nB := XB_3.out.lt
  have nR := XR_3.out.lt
  have YA_3 := hid (bx_past XA_3.out (.cells #[.bool false, .slice none 0 0, .slice ko kn kc] 82))
  have YB_3 := hid (bx_past XB_3.out (.cells #[.bool false, .slice none 0 0, .slice ko kn kc] 82))
  have YR_3 := hid (bx_past XR_3.out (.cells #[.bool false, .slice none 0 0, .slice ko kn kc] 82))
  have YX_3 := hid (bx_new w2 #[.bool false, .slice none 0 0, .slice ko kn kc] 82)
  have Q0_3 := hid (R0_3.out.alloc (.cells #[.bool false, .slice none 0 0, .slice ko kn kc] 82))
  have Q1_3 := hid (R1_3.out.alloc (.cells #[.bool false, .slice none 0 0, .slice ko kn kc] 82))
  have Q2_3 := hid (R2_3.out.alloc (.cells #[.bool false, .slice none 0 0, .slice ko kn kc] 82))
  have Q3_3 := hid (R3_3.out.alloc (.cells #[.bool false, .slice none 0 0, .slice ko kn kc] 82))
  have Qu_3 := hid (Ru_3.out.alloc (.cells #[.bool false, .slice none 0 0, .slice ko kn kc] 82))
  have Qv_3 := hid (Rv_3.out.alloc (.cells #[.bool false, .slice none 0 0, .slice ko kn kc] 82))
  have Qk_3 := hid (Rk_3.out.alloc (.cells #[.bool false, .slice none 0 0, .slice ko kn kc] 82))
  have HC_3 : Hid (Below w.heap.size w (w2.alloc (.cells #[.bool false, .slice none 0 0, .slice ko kn kc] 82))) := HB_3.out.alloc HB_3.out.size (.cells #[.bool false, .slice none 0 0, .slice ko kn kc] 82)
  go_wp2_with fail
  refine (pcmp_any uo vo un uc vn vc (p1 * q2) (p2 * q1) _ Qu_3.out Qv_3.out (by omega) (by omega)).mono ?_
  rintro e3 w3 ⟨rfl, hb3⟩
  have XA_4 := hid (YA_3.out.keep hb3)
  have XB_4 := hid (YB_3.out.keep hb3)
  have XR_4 := hid (YR_3.out.keep hb3)
  have XX_4 := hid (YX_3.out.keep hb3)
  have R0_4 := hid (Q0_3.out.below hb3)
  have R1_4 := hid (Q1_3.out.below hb3)
  have R2_4 := hid (Q2_3.out.below hb3)
  have R3_4 := hid (Q3_3.out.below hb3)
  have Ru_4 := hid (Qu_3.out.below hb3)
  have Rv_4 := hid (Qv_3.out.below hb3)
  have Rk_4 := hid (Qk_3.out.below hb3)
  have HB_4 : Hid (Below w.heap.size w w3) := HC_3.out.trans (hb3.mono HC_3.out.size)
  clear ltA cA0 cA1 cA2 ltB cB0 cB1 cB2 ltR cR0 zR0 cR1 zR1 cR2 zR2
  have ltA := XA_4.out.lt
  have cA0 := XA_4.out.cell 0 _ rfl
  have cA1 := XA_4.out.cell 1 _ rfl
  have cA2 := XA_4.out.cell 2 _ rfl
  have ltB := XB_4.out.lt
  have cB0 := XB_4.out.cell 0 _ rfl
  have cB1 := XB_4.out.cell 1 _ rfl
  have cB2 := XB_4.out.cell 2 _ rfl
  have ltR := XR_4.out.lt
  have cR0 := XR_4.out.cell 0 _ rfl
  have zR0 := XR_4.out.frozen 0
  have cR1 := XR_4.out.cell 1 _ rfl
  have zR1 := XR_4.out.frozen 1
  have cR2 := XR_4.out.cell 2 _ rfl
  have zR2 := XR_4.out.frozen 2
  have ltX := XX_4.out.lt
  have cX0 := XX_4.out.cell 0 _ rfl
  have zX0 := XX_4.out.frozen 0
  have cX1 := XX_4.out.cell 1 _ rfl
  have zX1 := XX_4.out.frozen 1
  have cX2 := XX_4.out.cell 2 _ rfl
  have zX2 := XX_4.out.frozen 2
  clear hb3
  generalize cmp3 ((p1 * q2 : Nat) : Int) ((p2 * q1 : Nat) : Int) = C
  go_wp2_with fail
  obtain ⟨V, hV⟩ : ∃ V, V = w3.setCell ⟨w2.heap.size, 0, none⟩ (.bool false) := ⟨_, rfl⟩
  rw [← hV]
  have VA := hid (XA_4.out.other ⟨w2.heap.size, 0, none⟩ (.bool false) (by show w2.heap.size ≠ _; omega))
  have VB := hid (XB_4.out.other ⟨w2.heap.size, 0, none⟩ (.bool false) (by show w2.heap.size ≠ _; omega))
  have VR := hid (XR_4.out.other ⟨w2.heap.size, 0, none⟩ (.bool false) (by show w2.heap.size ≠ _; omega))
  have VX := hid (XX_4.out.set0 (.bool false))
  have U0 := hid (R0_4.out.other w2.heap.size 0 (.bool false) XX_4.out (by decide))
  have U1 := hid (R1_4.out.other w2.heap.size 0 (.bool false) XX_4.out (by decide))
  have U2 := hid (R2_4.out.other w2.heap.size 0 (.bool false) XX_4.out (by decide))
  have U3 := hid (R3_4.out.other w2.heap.size 0 (.bool false) XX_4.out (by decide))
  have Uu := hid (Ru_4.out.other w2.heap.size 0 (.bool false) XX_4.out (by decide))
  have Uv := hid (Rv_4.out.other w2.heap.size 0 (.bool false) XX_4.out (by decide))
  have Uk := hid (Rk_4.out.other w2.heap.size 0 (.bool false) XX_4.out (by decide))
  have VBel := hid (HB_4.out.setCell (p := ⟨w2.heap.size, 0, none⟩) (by show w.heap.size ≤ w2.heap.size; omega) (.bool false))
  rw [← hV] at VBel VA VB VR VX U0 U1 U2 U3 Uu Uv Uk
  clear hV
  refine (pplus_any uo vo un uc vn vc (p1 * q2) (p2 * q1) _ Uu.out Uv.out (by omega) (by omega)).mono ?_
  rintro e4 w4 ⟨v4, rfl, ⟨so, sn, sc, rfl, hr4, _⟩, hb4⟩
  have XA_5 := hid (VA.out.keep hb4)
  have XB_5 := hid (VB.out.keep hb4)
  have XR_5 := hid (VR.out.keep hb4)
  have XX_5 := hid (VX.out.keep hb4)
  have R0_5 := hid (U0.out.below hb4)
  have R1_5 := hid (U1.out.below hb4)
  have R2_5 := hid (U2.out.below hb4)
  have R3_5 := hid (U3.out.below hb4)
  have Ru_5 := hid (Uu.out.below hb4)
  have Rv_5 := hid (Uv.out.below hb4)
  have Rk_5 := hid (Uk.out.below hb4)
  have HB_5 : Hid (Below w.heap.size w w4) := VBel.out.trans (hb4.mono VBel.out.size)
  clear ltA cA0 cA1 cA2 ltB cB0 cB1 cB2 ltR cR0 zR0 cR1 zR1 cR2 zR2 ltX cX0 zX0 cX1 zX1 cX2 zX2
  have ltA := XA_5.out.lt
  have cA0 := XA_5.out.cell 0 _ rfl
  have cA1 := XA_5.out.cell 1 _ rfl
  have cA2 := XA_5.out.cell 2 _ rfl
  have ltB := XB_5.out.lt
  have cB0 := XB_5.out.cell 0 _ rfl
  have cB1 := XB_5.out.cell 1 _ rfl
  have cB2 := XB_5.out.cell 2 _ rfl
  have ltR := XR_5.out.lt
  have cR0 := XR_5.out.cell 0 _ rfl
  have zR0 := XR_5.out.frozen 0
  have cR1 := XR_5.out.cell 1 _ rfl
  have zR1 := XR_5.out.frozen 1
  have cR2 := XR_5.out.cell 2 _ rfl
  have zR2 := XR_5.out.frozen 2
  have ltX := XX_5.out.lt
  have cX0 := XX_5.out.cell 0 _ rfl
  have zX0 := XX_5.out.frozen 0
  have cX1 := XX_5.out.cell 1 _ rfl
  have zX1 := XX_5.out.frozen 1
  have cX2 := XX_5.out.cell 2 _ rfl
  have zX2 := XX_5.out.frozen 2
  have RS := hid hr4
  clear hb4 hr4
  go_wp2
  have P1 := XX_5.out.set1 (.slice so sn sc)
  have P0 := XR_5.out.other ⟨w2.heap.size, 1, none⟩ (.slice so sn sc) (by show w2.heap.size ≠ _; omega)
  have Z := P0.put3 (.bool false) (.slice so sn sc) (.slice ko kn kc)
  have z0 := Z.cell 0 _ rfl
  have z1 := Z.cell 1 _ rfl
  have z2 := Z.cell 2 _ rfl
  unfold wput3 at z0 z1 z2
  have BB := below_put3 (HB_5.out.setCell (p := ⟨w2.heap.size, 1, none⟩) (by show w.heap.size ≤ w2.heap.size; omega) (.slice so sn sc)) (by omega : w.heap.size ≤ w.heap.size + 1 + 1) (.bool false) (.slice so sn sc) (.slice ko kn kc)
  refine bodyPost_ret (v := .agg #[.bool false, .slice so sn sc, .slice ko kn kc]) (by simp [results, Tryd.results54, go_sem, z0, z1, z2]) rfl ⟨_, false, p1 * q2 + p2 * q1, rfl, hsg.out, ?_, ⟨so, sn, sc, ko, kn, kc, rfl, ?_, ?_⟩, BB⟩
  · omega
  · exact (RS.out.other _ _ _ XX_5.out (by decide)).put3 P0 (by decide) _ _ _
  · exact (Rk_5.out.other _ _ _ XX_5.out (by decide)).put3 P0 (by decide) _ _ _

set_option maxHeartbeats 2000000 in
set_option maxRecDepth 20000 in
theorem psum_tt_same (ao bo co eo : Option Addr) (n capa m capb p capc q capd : Nat) (p1 q1 p2 q2 : Nat) (w : World) (h1 : Row w ao n capa (limbs p1)) (h2 : Row w bo m capb (limbs q1)) (h3 : Row w co p capc (limbs p2)) (h4 : Row w eo q capd (limbs q2)) (b1 : n ≤ 1000) (b2 : m ≤ 1000) (b3 : p ≤ 1000) (b4 : q ≤ 1000) :
    Calls Tryd.prog 54 #[.agg #[.bool true, .slice ao n capa, .slice bo m capb], .agg #[.bool true, .slice co p capc, .slice eo q capd]] w fun e w' => ∃ v m z, e = .returned v ∧ sg m z = sg true (p1 * q2) + sg true (p2 * q1) ∧ z ≤ p1 * q2 + p2 * q1 ∧ PNv w' v m z (q1 * q2) ∧ Below w.heap.size w w' := by
  have hsg : Hid (sg true (p1 * q2 + p2 * q1) = sg true (p1 * q2) + sg true (p2 * q1)) := (sg_same _ _ _).symm
  obtain ⟨c1, c2, c3, c5⟩ := boxes3 w #[.bool true, .slice ao n capa, .slice bo m capb] #[.bool true, .slice co p capc, .slice eo q capd] #[.bool false, .slice none 0 0, .slice none 0 0] 82 82 82
  have R0_0 := hid (h1.below c5)
  have len0 := h1.len
  have R1_0 := hid (h2.below c5)
  have len1 := h2.len
  have R2_0 := hid (h3.below c5)
  have len2 := h3.len
  have R3_0 := hid (h4.below c5)
  have len3 := h4.len
  have XA_0 := hid c1
  have XB_0 := hid c2
  have XR_0 := hid c3
  have HB_0 := hid c5
  clear h1 h2 h3 h4 c1 c2 c3 c5
  go_enter Tryd.func54, Tryd.ntmps54
  go_wp2_with fail
  refine (ptimes_any ao eo n capa q capd p1 q2 _ R0_0.out R3_0.out (by omega) (by omega)).mono ?_
  rintro e0 w0 ⟨v0, rfl, ⟨uo, un, uc, rfl, hr0, _⟩, hb0⟩
  have XA_1 := hid (XA_0.out.keep hb0)
  have XB_1 := hid (XB_0.out.keep hb0)
  have XR_1 := hid (XR_0.out.keep hb0)
  have R0_1 := hid (R0_0.out.below hb0)
  have R1_1 := hid (R1_0.out.below hb0)
  have R2_1 := hid (R2_0.out.below hb0)
  have R3_1 := hid (R3_0.out.below hb0)
  have HB_1 : Hid (Below w.heap.size w w0) := HB_0.out.trans (hb0.mono HB_0.out.size)
  have ltA := XA_1.out.lt
  have cA0 := XA_1.out.cell 0 _ rfl
  have cA1 := XA_1.out.cell 1 _ rfl
  have cA2 := XA_1.out.cell 2 _ rfl
  have ltB := XB_1.out.lt
  have cB0 := XB_1.out.cell 0 _ rfl
  have cB1 := XB_1.out.cell 1 _ rfl
  have cB2 := XB_1.out.cell 2 _ rfl
  have ltR := XR_1.out.lt
  have cR0 := XR_1.out.cell 0 _ rfl
  have zR0 := XR_1.out.frozen 0
  have cR1 := XR_1.out.cell 1 _ rfl
  have zR1 := XR_1.out.frozen 1
  have cR2 := XR_1.out.cell 2 _ rfl
  have zR2 := XR_1.out.frozen 2
  have Ru_1 := hid hr0
  have lenu := hr0.len
  have bdu : un ≤ 2000 := by rw [← lenu]; exact Nat.le_trans (prod_len len0 len3) (by omega)
  clear hb0 hr0
  go_wp2_with fail
  refine (ptimes_any co bo p capc m capb p2 q1 _ R2_1.out R1_1.out (by omega) (by omega)).mono ?_
  rintro e1 w1 ⟨v1, rfl, ⟨vo, vn, vc, rfl, hr1, _⟩, hb1⟩
  have XA_2 := hid (XA_1.out.keep hb1)
  have XB_2 := hid (XB_1.out.keep hb1)
  have XR_2 := hid (XR_1.out.keep hb1)
  have R0_2 := hid (R0_1.out.below hb1)
  have R1_2 := hid (R1_1.out.below hb1)
  have R2_2 := hid (R2_1.out.below hb1)
  have R3_2 := hid (R3_1.out.below hb1)
  have Ru_2 := hid (Ru_1.out.below hb1)
  have HB_2 : Hid (Below w.heap.size w w1) := HB_1.out.trans (hb1.mono HB_1.out.size)
  clear ltA cA0 cA1 cA2 ltB cB0 cB1 cB2 ltR cR0 zR0 cR1 zR1 cR2 zR2
  have ltA := XA_2.out.lt
  have cA0 := XA_2.out.cell 0 _ rfl
  have cA1 := XA_2.out.cell 1 _ rfl
  have cA2 := XA_2.out.cell 2 _ rfl
  have ltB := XB_2.out.lt
  have cB0 := XB_2.out.cell 0 _ rfl
  have cB1 := XB_2.out.cell 1 _ rfl
  have cB2 := XB_2.out.cell 2 _ rfl
  have ltR := XR_2.out.lt
  have cR0 := XR_2.out.cell 0 _ rfl
  have zR0 := XR_2.out.frozen 0
  have cR1 := XR_2.out.cell 1 _ rfl
  have zR1 := XR_2.out.frozen 1
  have cR2 := XR_2.out.cell 2 _ rfl
  have zR2 := XR_2.out.frozen 2
  have Rv_2 := hid hr1
  have lenv := hr1.len
  have bdv : vn ≤ 2000 := by rw [← lenv]; exact Nat.le_trans (prod_len len2 len1) (by omega)
  clear hb1 hr1
  go_wp2_with fail
  refine (ptimes_any bo eo m capb q capd q1 q2 _ R1_2.out R3_2.out (by omega) (by omega)).mono ?_
  rintro e2 w2 ⟨v2, rfl, ⟨ko, kn, kc, rfl, hr2, _⟩, hb2⟩
  have XA_3 := hid (XA_2.out.keep hb2)
  have XB_3 := hid (XB_2.out.keep hb2)
  have XR_3 := hid (XR_2.out.keep hb2)
  have R0_3 := hid (R0_2.out.below hb2)
  have R1_3 := hid (R1_2.out.below hb2)
  have R2_3 := hid (R2_2.out.below hb2)
  have R3_3 := hid (R3_2.out.below hb2)
  have Ru_3 := hid (Ru_2.out.below hb2)
  have Rv_3 := hid (Rv_2.out.below hb2)
  have HB_3 : Hid (Below w.heap.size w w2) := HB_2.out.trans (hb2.mono HB_2.out.size)
  clear ltA cA0 cA1 cA2 ltB cB0 cB1 cB2 ltR cR0 zR0 cR1 zR1 cR2 zR2
  have ltA := XA_3.out.lt
  have cA0 := XA_3.out.cell 0 _ rfl
  have cA1 := XA_3.out.cell 1 _ rfl
  have cA2 := XA_3.out.cell 2 _ rfl
  have ltB := XB_3.out.lt
  have cB0 := XB_3.out.cell 0 _ rfl
  have cB1 := XB_3.out.cell 1 _ rfl
  have cB2 := XB_3.out.cell 2 _ rfl
  have ltR := XR_3.out.lt
  have cR0 := XR_3.out.cell 0 _ rfl
  have zR0 := XR_3.out.frozen 0
  have cR1 := XR_3.out.cell 1 _ rfl
  have zR1 := XR_3.out.frozen 1
  have cR2 := XR_3.out.cell 2 _ rfl
  have zR2 := XR_3.out.frozen 2
  have Rk_3 := hid hr2
  have lenk := hr2.len
  have bdk : kn ≤ 2000 := by rw [← lenk]; exact Nat.le_trans (prod_len len1 len3) (by omega)
  clear hb2 hr2
  have nA := XA_3.out.lt
  have nB := XB_3.out.lt
  have nR := XR_3.out.lt
  have YA_3 := hid (bx_past XA_3.out (.cells #[.bool false, .slice none 0 0, .slice ko kn kc] 82))
  have YB_3 := hid (bx_past XB_3.out (.cells #[.bool false, .slice none 0 0, .slice ko kn kc] 82))
  have YR_3 := hid (bx_past XR_3.out (.cells #[.bool false, .slice none 0 0, .slice ko kn kc] 82))
  have YX_3 := hid (bx_new w2 #[.bool false, .slice none 0 0, .slice ko kn kc] 82)
  have Q0_3 := hid (R0_3.out.alloc (.cells #[.bool false, .slice none 0 0, .slice ko kn kc] 82))
  have Q1_3 := hid (R1_3.out.alloc (.cells #[.bool false, .slice none 0 0, .slice ko kn kc] 82))
  have Q2_3 := hid (R2_3.out.alloc (.cells #[.bool false, .slice none 0 0, .slice ko kn kc] 82))
  have Q3_3 := hid (R3_3.out.alloc (.cells #[.bool false, .slice none 0 0, .slice ko kn kc] 82))
  have Qu_3 := hid (Ru_3.out.alloc (.cells #[.bool false, .slice none 0 0, .slice ko kn kc] 82))
  have Qv_3 := hid (Rv_3.out.alloc (.cells #[.bool false, .slice none 0 0, .slice ko kn kc] 82))
  have Qk_3 := hid (Rk_3.out.alloc (.cells #[.bool false, .slice none 0 0, .slice ko kn kc] 82))
  have HC_3 : Hid (Below w.heap.size w (w2.alloc (.cells #[.bool false, .slice none 0 0, .slice ko kn kc] 82))) := HB_3.out.alloc HB_3.out.size (.cells #[.bool false, .slice none 0 0, .slice ko kn kc] 82)
  go_wp2_with fail
  refine (pcmp_any uo vo un uc vn vc (p1 * q2) (p2 * q1) _ Qu_3.out Qv_3.out (by omega) (by omega)).mono ?_
  rintro e3 w3 ⟨rfl, hb3⟩
  have XA_4 := hid (YA_3.out.keep hb3)
  have XB_4 := hid (YB_3.out.keep hb3)
  have XR_4 := hid (YR_3.out.keep hb3)
  have XX_4 := hid (YX_3.out.keep hb3)
  have R0_4 := hid (Q0_3.out.below hb3)
  have R1_4 := hid (Q1_3.out.below hb3)
  have R2_4 := hid (Q2_3.out.below hb3)
  have R3_4 := hid (Q3_3.out.below hb3)
  have Ru_4 := hid (Qu_3.out.below hb3)
  have Rv_4 := hid (Qv_3.out.below hb3)
  have Rk_4 := hid (Qk_3.out.below hb3)
  have HB_4 : Hid (Below w.heap.size w w3) := HC_3.out.trans (hb3.mono HC_3.out.size)
  clear ltA cA0 cA1 cA2 ltB cB0 cB1 cB2 ltR cR0 zR0 cR1 zR1 cR2 zR2
  have ltA := XA_4.out.lt
  have cA0 := XA_4.out.cell 0 _ rfl
  have cA1 := XA_4.out.cell 1 _ rfl
  have cA2 := XA_4.out.cell 2 _ rfl
  have ltB := XB_4.out.lt
  have cB0 := XB_4.out.cell 0 _ rfl
  have cB1 := XB_4.out.cell 1 _ rfl
  have cB2 := XB_4.out.cell 2 _ rfl
  have ltR := XR_4.out.lt
  have cR0 := XR_4.out.cell 0 _ rfl
  have zR0 := XR_4.out.frozen 0
  have cR1 := XR_4.out.cell 1 _ rfl
  have zR1 := XR_4.out.frozen 1
  have cR2 := XR_4.out.cell 2 _ rfl
  have zR2 := XR_4.out.frozen 2
  have ltX := XX_4.out.lt
  have cX0 := XX_4.out.cell 0 _ rfl
  have zX0 := XX_4.out.frozen 0
  have cX1 := XX_4.out.cell 1 _ rfl
  have zX1 := XX_4.out.frozen 1
  have cX2 := XX_4.out.cell 2 _ rfl
  have zX2 := XX_4.out.frozen 2
  clear hb3
  generalize cmp3 ((p1 * q2 : Nat) : Int) ((p2 * q1 : Nat) : Int) = C
  go_wp2_with fail
  obtain ⟨V, hV⟩ : ∃ V, V = w3.setCell ⟨w2.heap.size, 0, none⟩ (.bool true) := ⟨_, rfl⟩
  rw [← hV]
  have VA := hid (XA_4.out.other ⟨w2.heap.size, 0, none⟩ (.bool true) (by show w2.heap.size ≠ _; omega))
  have VB := hid (XB_4.out.other ⟨w2.heap.size, 0, none⟩ (.bool true) (by show w2.heap.size ≠ _; omega))
  have VR := hid (XR_4.out.other ⟨w2.heap.size, 0, none⟩ (.bool true) (by show w2.heap.size ≠ _; omega))
  have VX := hid (XX_4.out.set0 (.bool true))
  have U0 := hid (R0_4.out.other w2.heap.size 0 (.bool true) XX_4.out (by decide))
  have U1 := hid (R1_4.out.other w2.heap.size 0 (.bool true) XX_4.out (by decide))
  have U2 := hid (R2_4.out.other w2.heap.size 0 (.bool true) XX_4.out (by decide))
  have U3 := hid (R3_4.out.other w2.heap.size 0 (.bool true) XX_4.out (by decide))
  have Uu := hid (Ru_4.out.other w2.heap.size 0 (.bool true) XX_4.out (by decide))
  have Uv := hid (Rv_4.out.other w2.heap.size 0 (.bool true) XX_4.out (by decide))
  have Uk := hid (Rk_4.out.other w2.heap.size 0 (.bool true) XX_4.out (by decide))
  have VBel := hid (HB_4.out.setCell (p := ⟨w2.heap.size, 0, none⟩) (by show w.heap.size ≤ w2.heap.size; omega) (.bool true))
  rw [← hV] at VBel VA VB VR VX U0 U1 U2 U3 Uu Uv Uk
  clear hV
  refine (pplus_any uo vo un uc vn vc (p1 * q2) (p2 * q1) _ Uu.out Uv.out (by omega) (by omega)).mono ?_
  rintro e4 w4 ⟨v4, rfl, ⟨so, sn, sc, rfl, hr4, _⟩, hb4⟩
  have XA_5 := hid (VA.out.keep hb4)
  have XB_5 := hid (VB.out.keep hb4)
  have XR_5 := hid (VR.out.keep hb4)
  have XX_5 := hid (VX.out.keep hb4)
  have R0_5 := hid (U0.out.below hb4)
  have R1_5 := hid (U1.out.below hb4)
  have R2_5 := hid (U2.out.below hb4)
  have R3_5 := hid (U3.out.below hb4)
  have Ru_5 := hid (Uu.out.below hb4)
  have Rv_5 := hid (Uv.out.below hb4)
  have Rk_5 := hid (Uk.out.below hb4)
  have HB_5 : Hid (Below w.heap.size w w4) := VBel.out.trans (hb4.mono VBel.out.size)
  clear ltA cA0 cA1 cA2 ltB cB0 cB1 cB2 ltR cR0 zR0 cR1 zR1 cR2 zR2 ltX cX0 zX0 cX1 zX1 cX2 zX2
  have ltA := XA_5.out.lt
  have cA0 := XA_5.out.cell 0 _ rfl
  have cA1 := XA_5.out.cell 1 _ rfl
  have cA2 := XA_5.out.cell 2 _ rfl
  have ltB := XB_5.out.lt
  have cB0 := XB_5.out.cell 0 _ rfl
  have cB1 := XB_5.out.cell 1 _ rfl
  have cB2 := XB_5.out.cell 2 _ rfl
  have ltR := XR_5.out.lt
  have cR0 := XR_5.out.cell 0 _ rfl
  have zR0 := XR_5.out.frozen 0
  have cR1 := XR_5.out.cell 1 _ rfl
  have zR1 := XR_5.out.frozen 1
  have cR2 := XR_5.out.cell 2 _ rfl
  have zR2 := XR_5.out.frozen 2
  have ltX := XX_5.out.lt
  have cX0 := XX_5.out.cell 0 _ rfl
  have zX0 := XX_5.out.frozen 0
  have cX1 := XX_5.out.cell 1 _ rfl
  have zX1 := XX_5.out.frozen 1
  have cX2 := XX_5.out.cell 2 _ rfl
  have zX2 := XX_5.out.frozen 2
  have RS := hid hr4
  clear hb4 hr4
  go_wp2
  have P1 := XX_5.out.set1 (.slice so sn sc)
  have P0 := XR_5.out.other ⟨w2.heap.size, 1, none⟩ (.slice so sn sc) (by show w2.heap.size ≠ _; omega)
  have Z := P0.put3 (.bool true) (.slice so sn sc) (.slice ko kn kc)
  have z0 := Z.cell 0 _ rfl
  have z1 := Z.cell 1 _ rfl
  have z2 := Z.cell 2 _ rfl
  unfold wput3 at z0 z1 z2
  have BB := below_put3 (HB_5.out.setCell (p := ⟨w2.heap.size, 1, none⟩) (by show w.heap.size ≤ w2.heap.size; omega) (.slice so sn sc)) (by omega : w.heap.size ≤ w.heap.size + 1 + 1) (.bool true) (.slice so sn sc) (.slice ko kn kc)
  refine bodyPost_ret (v := .agg #[.bool true, .slice so sn sc, .slice ko kn kc]) (by simp [results, Tryd.results54, go_sem, z0, z1, z2]) rfl ⟨_, true, p1 * q2 + p2 * q1, rfl, hsg.out, ?_, ⟨so, sn, sc, ko, kn, kc, rfl, ?_, ?_⟩, BB⟩
  · omega
  · exact (RS.out.other _ _ _ XX_5.out (by decide)).put3 P0 (by decide) _ _ _
  · exact (Rk_5.out.other _ _ _ XX_5.out (by decide)).put3 P0 (by decide) _ _ _

set_option maxHeartbeats 2000000 in
set_option maxRecDepth 20000 in
theorem psum_ft_ge (ao bo co eo : Option Addr) (n capa m capb p capc q capd : Nat) (p1 q1 p2 q2 : Nat) (w : World) (h1 : Row w ao n capa (limbs p1)) (h2 : Row w bo m capb (limbs q1)) (h3 : Row w co p capc (limbs p2)) (h4 : Row w eo q capd (limbs q2)) (b1 : n ≤ 1000) (b2 : m ≤ 1000) (b3 : p ≤ 1000) (b4 : q ≤ 1000) (hle : Hid (p2 * q1 ≤ p1 * q2)) :
    Calls Tryd.prog 54 #[.agg #[.bool false, .slice ao n capa, .slice bo m capb], .agg #[.bool true, .slice co p capc, .slice eo q capd]] w fun e w' => ∃ v m z, e = .returned v ∧ sg m z = sg false (p1 * q2) + sg true (p2 * q1) ∧ z ≤ p1 * q2 + p2 * q1 ∧ PNv w' v m z (q1 * q2) ∧ Below w.heap.size w w' := by
  have hsg : Hid (sg false (p1 * q2 - p2 * q1) = sg false (p1 * q2) + sg true (p2 * q1)) := (sg_less _ _ _ _ (by decide) hle.out).symm
  obtain ⟨C, hC0, hc⟩ : ∃ C : Int, 0 ≤ C ∧ Hid (cmp3 ((p1 * q2 : Nat) : Int) ((p2 * q1 : Nat) : Int) = C) := ⟨_, by have := hle.out; unfold cmp3; rw [if_neg (by omega)]; split <;> omega, rfl⟩
  obtain ⟨c1, c2, c3, c5⟩ := boxes3 w #[.bool false, .slice ao n capa, .slice bo m capb] #[.bool true, .slice co p capc, .slice eo q capd] #[.bool false, .slice none 0 0, .slice none 0 0] 82 82 82
  have R0_0 := hid (h1.below c5)
  have len0 := h1.len
  have R1_0 := hid (h2.below c5)
  have len1 := h2.len
  have R2_0 := hid (h3.below c5)
  have len2 := h3.len
  have R3_0 := hid (h4.below c5)
  have len3 := h4.len
  have XA_0 := hid c1
  have XB_0 := hid c2
  have XR_0 := hid c3
  have HB_0 := hid c5
  clear h1 h2 h3 h4 c1 c2 c3 c5
  go_enter Tryd.func54, Tryd.ntmps54
  go_wp2_with fail
  refine (ptimes_any ao eo n capa q capd p1 q2 _ R0_0.out R3_0.out (by omega) (by omega)).mono ?_
  rintro e0 w0 ⟨v0, rfl, ⟨uo, un, uc, rfl, hr0, _⟩, hb0⟩
  have XA_1 := hid (XA_0.out.keep hb0)
  have XB_1 := hid (XB_0.out.keep hb0)
  have XR_1 := hid (XR_0.out.keep hb0)
  have R0_1 := hid (R0_0.out.below hb0)
  have R1_1 := hid (R1_0.out.below hb0)
  have R2_1 := hid (R2_0.out.below hb0)
  have R3_1 := hid (R3_0.out.below hb0)
  have HB_1 : Hid (Below w.heap.size w w0) := HB_0.out.trans (hb0.mono HB_0.out.size)
  have ltA := XA_1.out.lt
  have cA0 := XA_1.out.cell 0 _ rfl
  have cA1 := XA_1.out.cell 1 _ rfl
  have cA2 := XA_1.out.cell 2 _ rfl
  have ltB := XB_1.out.lt
  have cB0 := XB_1.out.cell 0 _ rfl
  have cB1 := XB_1.out.cell 1 _ rfl
  have cB2 := XB_1.out.cell 2 _ rfl
  have ltR := XR_1.out.lt
  have cR0 := XR_1.out.cell 0 _ rfl
  have zR0 := XR_1.out.frozen 0
  have cR1 := XR_1.out.cell 1 _ rfl
  have zR1 := XR_1.out.frozen 1
  have cR2 := XR_1.out.cell 2 _ rfl
  have zR2 := XR_1.out.frozen 2
  have Ru_1 := hid hr0
  have lenu := hr0.len
  have bdu : un ≤ 2000 := by rw [← lenu]; exact Nat.le_trans (prod_len len0 len3) (by omega)
  clear hb0 hr0
  go_wp2_with fail
  refine (ptimes_any co bo p capc m capb p2 q1 _ R2_1.out R1_1.out (by omega) (by omega)).mono ?_
  rintro e1 w1 ⟨v1, rfl, ⟨vo, vn, vc, rfl, hr1, _⟩, hb1⟩
  have XA_2 := hid (XA_1.out.keep hb1)
  have XB_2 := hid (XB_1.out.keep hb1)
  have XR_2 := hid (XR_1.out.keep hb1)
  have R0_2 := hid (R0_1.out.below hb1)
  have R1_2 := hid (R1_1.out.below hb1)
  have R2_2 := hid (R2_1.out.below hb1)
  have R3_2 := hid (R3_1.out.below hb1)
  have Ru_2 := hid (Ru_1.out.below hb1)
  have HB_2 : Hid (Below w.heap.size w w1) := HB_1.out.trans (hb1.mono HB_1.out.size)
  clear ltA cA0 cA1 cA2 ltB cB0 cB1 cB2 ltR cR0 zR0 cR1 zR1 cR2 zR2
  have ltA := XA_2.out.lt
  have cA0 := XA_2.out.cell 0 _ rfl
  have cA1 := XA_2.out.cell 1 _ rfl
  have cA2 := XA_2.out.cell 2 _ rfl
  have ltB := XB_2.out.lt
  have cB0 := XB_2.out.cell 0 _ rfl
  have cB1 := XB_2.out.cell 1 _ rfl
  have cB2 := XB_2.out.cell 2 _ rfl
  have ltR := XR_2.out.lt
  have cR0 := XR_2.out.cell 0 _ rfl
  have zR0 := XR_2.out.frozen 0
  have cR1 := XR_2.out.cell 1 _ rfl
  have zR1 := XR_2.out.frozen 1
  have cR2 := XR_2.out.cell 2 _ rfl
  have zR2 := XR_2.out.frozen 2
  have Rv_2 := hid hr1
  have lenv := hr1.len
  have bdv : vn ≤ 2000 := by rw [← lenv]; exact Nat.le_trans (prod_len len2 len1) (by omega)
  clear hb1 hr1
  go_wp2_with fail
  refine (ptimes_any bo eo m capb q capd q1 q2 _ R1_2.out R3_2.out (by omega) (by omega)).mono ?_
  rintro e2 w2 ⟨v2, rfl, ⟨ko, kn, kc, rfl, hr2, _⟩, hb2⟩
  have XA_3 := hid (XA_2.out.keep hb2)
  have XB_3 := hid (XB_2.out.keep hb2)
  have XR_3 := hid (XR_2.out.keep hb2)
  have R0_3 := hid (R0_2.out.below hb2)
  have R1_3 := hid (R1_2.out.below hb2)
  have R2_3 := hid (R2_2.out.below hb2)
  have R3_3 := hid (R3_2.out.below hb2)
  have Ru_3 := hid (Ru_2.out.below hb2)
  have Rv_3 := hid (Rv_2.out.below hb2)
  have HB_3 : Hid (Below w.heap.size w w2) := HB_2.out.trans (hb2.mono HB_2.out.size)
  clear ltA cA0 cA1 cA2 ltB cB0 cB1 cB2 ltR cR0 zR0 cR1 zR1 cR2 zR2
  have ltA := XA_3.out.lt
  have cA0 := XA_3.out.cell 0 _ rfl
  have cA1 := XA_3.out.cell 1 _ rfl
  have cA2 := XA_3.out.cell 2 _ rfl
  have ltB := XB_3.out.lt
  have cB0 := XB_3.out.cell 0 _ rfl
  have cB1 := XB_3.out.cell 1 _ rfl
  have cB2 := XB_3.out.cell 2 _ rfl
  have ltR := XR_3.out.lt
  have cR0 := XR_3.out.cell 0 _ rfl
  have zR0 := XR_3.out.frozen 0
  have cR1 := XR_3.out.cell 1 _ rfl
  have zR1 := XR_3.out.frozen 1
  have cR2 := XR_3.out.cell 2 _ rfl
  have zR2 := XR_3.out.frozen 2
  have Rk_3 := hid hr2
  have lenk := hr2.len
  have bdk : kn ≤ 2000 := by rw [← lenk]; exact Nat.le_trans (prod_len len1 len3) (by omega)
  clear hb2 hr2
  have nA := XA_3.out.lt
  have nB := XB_3.out.lt
  have nR := XR_3.out.lt
  have YA_3 := hid (bx_past XA_3.out (.cells #[.bool false, .slice none 0 0, .slice ko kn kc] 82))
  have YB_3 := hid (bx_past XB_3.out (.cells #[.bool false, .slice none 0 0, .slice ko kn kc] 82))
  have YR_3 := hid (bx_past XR_3.out (.cells #[.bool false, .slice none 0 0, .slice ko kn kc] 82))
  have YX_3 := hid (bx_new w2 #[.bool false, .slice none 0 0, .slice ko kn kc] 82)
  have Q0_3 := hid (R0_3.out.alloc (.cells #[.bool false, .slice none 0 0, .slice ko kn kc] 82))
  have Q1_3 := hid (R1_3.out.alloc (.cells #[.bool false, .slice none 0 0, .slice ko kn kc] 82))
  have Q2_3 := hid (R2_3.out.alloc (.cells #[.bool false, .slice none 0 0, .slice ko kn kc] 82))
  have Q3_3 := hid (R3_3.out.alloc (.cells #[.bool false, .slice none 0 0, .slice ko kn kc] 82))
  have Qu_3 := hid (Ru_3.out.alloc (.cells #[.bool false, .slice none 0 0, .slice ko kn kc] 82))
  have Qv_3 := hid (Rv_3.out.alloc (.cells #[.bool false, .slice none 0 0, .slice ko kn kc] 82))
  have Qk_3 := hid (Rk_3.out.alloc (.cells #[.bool false, .slice none 0 0, .slice ko kn kc] 82))
  have HC_3 : Hid (Below w.heap.size w (w2.alloc (.cells #[.bool false, .slice none 0 0, .slice ko kn kc] 82))) := HB_3.out.alloc HB_3.out.size (.cells #[.bool false, .slice none 0 0, .slice ko kn kc] 82)
  go_wp2_with fail
  refine (pcmp_any uo vo un uc vn vc (p1 * q2) (p2 * q1) _ Qu_3.out Qv_3.out (by omega) (by omega)).mono ?_
  rintro e3 w3 ⟨rfl, hb3⟩
  have XA_4 := hid (YA_3.out.keep hb3)
  have XB_4 := hid (YB_3.out.keep hb3)
  have XR_4 := hid (YR_3.out.keep hb3)
  have XX_4 := hid (YX_3.out.keep hb3)
  have R0_4 := hid (Q0_3.out.below hb3)
  have R1_4 := hid (Q1_3.out.below hb3)
  have R2_4 := hid (Q2_3.out.below hb3)
  have R3_4 := hid (Q3_3.out.below hb3)
  have Ru_4 := hid (Qu_3.out.below hb3)
  have Rv_4 := hid (Qv_3.out.below hb3)
  have Rk_4 := hid (Qk_3.out.below hb3)
  have HB_4 : Hid (Below w.heap.size w w3) := HC_3.out.trans (hb3.mono HC_3.out.size)
  clear ltA cA0 cA1 cA2 ltB cB0 cB1 cB2 ltR cR0 zR0 cR1 zR1 cR2 zR2
  have ltA := XA_4.out.lt
  have cA0 := XA_4.out.cell 0 _ rfl
  have cA1 := XA_4.out.cell 1 _ rfl
  have cA2 := XA_4.out.cell 2 _ rfl
  have ltB := XB_4.out.lt
  have cB0 := XB_4.out.cell 0 _ rfl
  have cB1 := XB_4.out.cell 1 _ rfl
  have cB2 := XB_4.out.cell 2 _ rfl
  have ltR := XR_4.out.lt
  have cR0 := XR_4.out.cell 0 _ rfl
  have zR0 := XR_4.out.frozen 0
  have cR1 := XR_4.out.cell 1 _ rfl
  have zR1 := XR_4.out.frozen 1
  have cR2 := XR_4.out.cell 2 _ rfl
  have zR2 := XR_4.out.frozen 2
  have ltX := XX_4.out.lt
  have cX0 := XX_4.out.cell 0 _ rfl
  have zX0 := XX_4.out.frozen 0
  have cX1 := XX_4.out.cell 1 _ rfl
  have zX1 := XX_4.out.frozen 1
  have cX2 := XX_4.out.cell 2 _ rfl
  have zX2 := XX_4.out.frozen 2
  clear hb3
  rw [hc.out]
  go_wp2_with fail
  obtain ⟨V, hV⟩ : ∃ V, V = w3.setCell ⟨w2.heap.size, 0, none⟩ (.bool false) := ⟨_, rfl⟩
  rw [← hV]
  have VA := hid (XA_4.out.other ⟨w2.heap.size, 0, none⟩ (.bool false) (by show w2.heap.size ≠ _; omega))
  have VB := hid (XB_4.out.other ⟨w2.heap.size, 0, none⟩ (.bool false) (by show w2.heap.size ≠ _; omega))
  have VR := hid (XR_4.out.other ⟨w2.heap.size, 0, none⟩ (.bool false) (by show w2.heap.size ≠ _; omega))
  have VX := hid (XX_4.out.set0 (.bool false))
  have U0 := hid (R0_4.out.other w2.heap.size 0 (.bool false) XX_4.out (by decide))
  have U1 := hid (R1_4.out.other w2.heap.size 0 (.bool false) XX_4.out (by decide))
  have U2 := hid (R2_4.out.other w2.heap.size 0 (.bool false) XX_4.out (by decide))
  have U3 := hid (R3_4.out.other w2.heap.size 0 (.bool false) XX_4.out (by decide))
  have Uu := hid (Ru_4.out.other w2.heap.size 0 (.bool false) XX_4.out (by decide))
  have Uv := hid (Rv_4.out.other w2.heap.size 0 (.bool false) XX_4.out (by decide))
  have Uk := hid (Rk_4.out.other w2.heap.size 0 (.bool false) XX_4.out (by decide))
  have VBel := hid (HB_4.out.setCell (p := ⟨w2.heap.size, 0, none⟩) (by show w.heap.size ≤ w2.heap.size; omega) (.bool false))
  rw [← hV] at VBel VA VB VR VX U0 U1 U2 U3 Uu Uv Uk
  clear hV
  refine (pless_any uo vo un uc vn vc (p1 * q2) (p2 * q1) _ Uu.out Uv.out (by omega) (by omega) hle.out).mono ?_
  rintro e4 w4 ⟨v4, rfl, ⟨so, sn, sc, rfl, hr4, _⟩, hb4⟩
  have XA_5 := hid (VA.out.keep hb4)
  have XB_5 := hid (VB.out.keep hb4)
  have XR_5 := hid (VR.out.keep hb4)
  have XX_5 := hid (VX.out.keep hb4)
  have R0_5 := hid (U0.out.below hb4)
  have R1_5 := hid (U1.out.below hb4)
  have R2_5 := hid (U2.out.below hb4)
  have R3_5 := hid (U3.out.below hb4)
  have Ru_5 := hid (Uu.out.below hb4)
  have Rv_5 := hid (Uv.out.below hb4)
  have Rk_5 := hid (Uk.out.below hb4)
  have HB_5 : Hid (Below w.heap.size w w4) := VBel.out.trans (hb4.mono VBel.out.size)
  clear ltA cA0 cA1 cA2 ltB cB0 cB1 cB2 ltR cR0 zR0 cR1 zR1 cR2 zR2 ltX cX0 zX0 cX1 zX1 cX2 zX2
  have ltA := XA_5.out.lt
  have cA0 := XA_5.out.cell 0 _ rfl
  have cA1 := XA_5.out.cell 1 _ rfl
  have cA2 := XA_5.out.cell 2 _ rfl
  have ltB := XB_5.out.lt
  have cB0 := XB_5.out.cell 0 _ rfl
  have cB1 := XB_5.out.cell 1 _ rfl
  have cB2 := XB_5.out.cell 2 _ rfl
  have ltR := XR_5.out.lt
  have cR0 := XR_5.out.cell 0 _ rfl
  have zR0 := XR_5.out.frozen 0
  have cR1 := XR_5.out.cell 1 _ rfl
  have zR1 := XR_5.out.frozen 1
  have cR2 := XR_5.out.cell 2 _ rfl
  have zR2 := XR_5.out.frozen 2
  have ltX := XX_5.out.lt
  have cX0 := XX_5.out.cell 0 _ rfl
  have zX0 := XX_5.out.frozen 0
  have cX1 := XX_5.out.cell 1 _ rfl
  have zX1 := XX_5.out.frozen 1
  have cX2 := XX_5.out.cell 2 _ rfl
  have zX2 := XX_5.out.frozen 2
  have RS := hid hr4
  clear hb4 hr4
  go_wp2
  have P1 := XX_5.out.set1 (.slice so sn sc)
  have P0 := XR_5.out.other ⟨w2.heap.size, 1, none⟩ (.slice so sn sc) (by show w2.heap.size ≠ _; omega)
  have Z := P0.put3 (.bool false) (.slice so sn sc) (.slice ko kn kc)
  have z0 := Z.cell 0 _ rfl
  have z1 := Z.cell 1 _ rfl
  have z2 := Z.cell 2 _ rfl
  unfold wput3 at z0 z1 z2
  have BB := below_put3 (HB_5.out.setCell (p := ⟨w2.heap.size, 1, none⟩) (by show w.heap.size ≤ w2.heap.size; omega) (.slice so sn sc)) (by omega : w.heap.size ≤ w.heap.size + 1 + 1) (.bool false) (.slice so sn sc) (.slice ko kn kc)
  refine bodyPost_ret (v := .agg #[.bool false, .slice so sn sc, .slice ko kn kc]) (by simp [results, Tryd.results54, go_sem, z0, z1, z2]) rfl ⟨_, false, p1 * q2 - p2 * q1, rfl, hsg.out, ?_, ⟨so, sn, sc, ko, kn, kc, rfl, ?_, ?_⟩, BB⟩
  · omega
  · exact (RS.out.other _ _ _ XX_5.out (by decide)).put3 P0 (by decide) _ _ _
  · exact (Rk_5.out.other _ _ _ XX_5.out (by decide)).put3 P0 (by decide) _ _ _

set_option maxHeartbeats 2000000 in
set_option maxRecDepth 20000 in
theorem psum_ft_lt (ao bo co eo : Option Addr) (n capa m capb p capc q capd : Nat) (p1 q1 p2 q2 : Nat) (w : World) (h1 : Row w ao n capa (limbs p1)) (h2 : Row w bo m capb (limbs q1)) (h3 : Row w co p capc (limbs p2)) (h4 : Row w eo q capd (limbs q2)) (b1 : n ≤ 1000) (b2 : m ≤ 1000) (b3 : p ≤ 1000) (b4 : q ≤ 1000) (hlt : Hid (p1 * q2 < p2 * q1)) (hle : Hid (p1 * q2 ≤ p2 * q1)) :
    Calls Tryd.prog 54 #[.agg #[.bool false, .slice ao n capa, .slice bo m capb], .agg #[.bool true, .slice co p capc, .slice eo q capd]] w fun e w' => ∃ v m z, e = .returned v ∧ sg m z = sg false (p1 * q2) + sg true (p2 * q1) ∧ z ≤ p1 * q2 + p2 * q1 ∧ PNv w' v m z (q1 * q2) ∧ Below w.heap.size w w' := by
  have hsg : Hid (sg true (p2 * q1 - p1 * q2) = sg false (p1 * q2) + sg true (p2 * q1)) := (sg_more _ _ _ _ (by decide) hle.out).symm
  have hc : Hid (cmp3 ((p1 * q2 : Nat) : Int) ((p2 * q1 : Nat) : Int) = -1) := by have := hlt.out; show _ = _; unfold cmp3; rw [if_pos (by omega)]
  obtain ⟨c1, c2, c3, c5⟩ := boxes3 w #[.bool false, .slice ao n capa, .slice bo m capb] #[.bool true, .slice co p capc, .slice eo q capd] #[.bool false, .slice none 0 0, .slice none 0 0] 82 82 82
  have R0_0 := hid (h1.below c5)
  have len0 := h1.len
  have R1_0 := hid (h2.below c5)
  have len1 := h2.len
  have R2_0 := hid (h3.below c5)
  have len2 := h3.len
  have R3_0 := hid (h4.below c5)
  have len3 := h4.len
  have XA_0 := hid c1
  have XB_0 := hid c2
  have XR_0 := hid c3
  have HB_0 := hid c5
  clear h1 h2 h3 h4 c1 c2 c3 c5
  go_enter Tryd.func54, Tryd.ntmps54
  go_wp2_with fail
  refine (ptimes_any ao eo n capa q capd p1 q2 _ R0_0.out R3_0.out (by omega) (by omega)).mono ?_
  rintro e0 w0 ⟨v0, rfl, ⟨uo, un, uc, rfl, hr0, _⟩, hb0⟩
  have XA_1 := hid (XA_0.out.keep hb0)
  have XB_1 := hid (XB_0.out.keep hb0)
  have XR_1 := hid (XR_0.out.keep hb0)
  have R0_1 := hid (R0_0.out.below hb0)
  have R1_1 := hid (R1_0.out.below hb0)
  have R2_1 := hid (R2_0.out.below hb0)
  have R3_1 := hid (R3_0.out.below hb0)
  have HB_1 : Hid (Below w.heap.size w w0) := HB_0.out.trans (hb0.mono HB_0.out.size)
  have ltA := XA_1.out.lt
  have cA0 := XA_1.out.cell 0 _ rfl
  have cA1 := XA_1.out.cell 1 _ rfl
  have cA2 := XA_1.out.cell 2 _ rfl
  have ltB := XB_1.out.lt
  have cB0 := XB_1.out.cell 0 _ rfl
  have cB1 := XB_1.out.cell 1 _ rfl
  have cB2 := XB_1.out.cell 2 _ rfl
  have ltR := XR_1.out.lt
  have cR0 := XR_1.out.cell 0 _ rfl
  have zR0 := XR_1.out.frozen 0
  have cR1 := XR_1.out.cell 1 _ rfl
  have zR1 := XR_1.out.frozen 1
  have cR2 := XR_1.out.cell 2 _ rfl
  have zR2 := XR_1.out.frozen 2
  have Ru_1 := hid hr0
  have lenu := hr0.len
  have bdu : un ≤ 2000 := by rw [← lenu]; exact Nat.le_trans (prod_len len0 len3) (by omega)
  clear hb0 hr0
  go_wp2_with fail
  refine (ptimes_any co bo p capc m capb p2 q1 _ R2_1.out R1_1.out (by omega) (by omega)).mono ?_
  rintro e1 w1 ⟨v1, rfl, ⟨vo, vn, vc, rfl, hr1, _⟩, hb1⟩
  have XA_2 := hid (XA_1.out.keep hb1)
  have XB_2 := hid (XB_1.out.keep hb1)
  have XR_2 := hid (XR_1.out.keep hb1)
  have R0_2 := hid (R0_1.out.below hb1)
  have R1_2 := hid (R1_1.out.below hb1)
  have R2_2 := hid (R2_1.out.below hb1)
  have R3_2 := hid (R3_1.out.below hb1)
  have Ru_2 := hid (Ru_1.out.below hb1)
  have HB_2 : Hid (Below w.heap.size w w1) := HB_1.out.trans (hb1.mono HB_1.out.size)
  clear ltA cA0 cA1 cA2 ltB cB0 cB1 cB2 ltR cR0 zR0 cR1 zR1 cR2 zR2
  have ltA := XA_2.out.lt
  have cA0 := XA_2.out.cell 0 _ rfl
  have cA1 := XA_2.out.cell 1 _ rfl
  have cA2 := XA_2.out.cell 2 _ rfl
  have ltB := XB_2.out.lt
  have cB0 := XB_2.out.cell 0 _ rfl
  have cB1 := XB_2.out.cell 1 _ rfl
  have cB2 := XB_2.out.cell 2 _ rfl
  have ltR := XR_2.out.lt
  have cR0 := XR_2.out.cell 0 _ rfl
  have zR0 := XR_2.out.frozen 0
  have cR1 := XR_2.out.cell 1 _ rfl
  have zR1 := XR_2.out.frozen 1
  have cR2 := XR_2.out.cell 2 _ rfl
  have zR2 := XR_2.out.frozen 2
  have Rv_2 := hid hr1
  have lenv := hr1.len
  have bdv : vn ≤ 2000 := by rw [← lenv]; exact Nat.le_trans (prod_len len2 len1) (by omega)
  clear hb1 hr1
  go_wp2_with fail
  refine (ptimes_any bo eo m capb q capd q1 q2 _ R1_2.out R3_2.out (by omega) (by omega)).mono ?_
  rintro e2 w2 ⟨v2, rfl, ⟨ko, kn, kc, rfl, hr2, _⟩, hb2⟩
  have XA_3 := hid (XA_2.out.keep hb2)
  have XB_3 := hid (XB_2.out.keep hb2)
  have XR_3 := hid (XR_2.out.keep hb2)
  have R0_3 := hid (R0_2.out.below hb2)
  have R1_3 := hid (R1_2.out.below hb2)
  have R2_3 := hid (R2_2.out.below hb2)
  have R3_3 := hid (R3_2.out.below hb2)
  have Ru_3 := hid (Ru_2.out.below hb2)
  have Rv_3 := hid (Rv_2.out.below hb2)
  have HB_3 : Hid (Below w.heap.size w w2) := HB_2.out.trans (hb2.mono HB_2.out.size)
  clear ltA cA0 cA1 cA2 ltB cB0 cB1 cB2 ltR cR0 zR0 cR1 zR1 cR2 zR2
  have ltA := XA_3.out.lt
  have cA0 := XA_3.out.cell 0 _ rfl
  have cA1 := XA_3.out.cell 1 _ rfl
  have cA2 := XA_3.out.cell 2 _ rfl
  have ltB := XB_3.out.lt
  have cB0 := XB_3.out.cell 0 _ rfl
  have cB1 := XB_3.out.cell 1 _ rfl
  have cB2 := XB_3.out.cell 2 _ rfl
  have ltR := XR_3.out.lt
  have cR0 := XR_3.out.cell 0 _ rfl
  have zR0 := XR_3.out.frozen 0
  have cR1 := XR_3.out.cell 1 _ rfl
  have zR1 := XR_3.out.frozen 1
  have cR2 := XR_3.out.cell 2 _ rfl
  have zR2 := XR_3.out.frozen 2
  have Rk_3 := hid hr2
  have lenk := hr2.len
  have bdk : kn ≤ 2000 := by rw [← lenk]; exact Nat.le_trans (prod_len len1 len3) (by omega)
  clear hb2 hr2
  have nA := XA_3.out.lt
  have nB := XB_3.out.lt
  have nR := XR_3.out.lt
  have YA_3 := hid (bx_past XA_3.out (.cells #[.bool false, .slice none 0 0, .slice ko kn kc] 82))
  have YB_3 := hid (bx_past XB_3.out (.cells #[.bool false, .slice none 0 0, .slice ko kn kc] 82))
  have YR_3 := hid (bx_past XR_3.out (.cells #[.bool false, .slice none 0 0, .slice ko kn kc] 82))
  have YX_3 := hid (bx_new w2 #[.bool false, .slice none 0 0, .slice ko kn kc] 82)
  have Q0_3 := hid (R0_3.out.alloc (.cells #[.bool false, .slice none 0 0, .slice ko kn kc] 82))
  have Q1_3 := hid (R1_3.out.alloc (.cells #[.bool false, .slice none 0 0, .slice ko kn kc] 82))
  have Q2_3 := hid (R2_3.out.alloc (.cells #[.bool false, .slice none 0 0, .slice ko kn kc] 82))
  have Q3_3 := hid (R3_3.out.alloc (.cells #[.bool false, .slice none 0 0, .slice ko kn kc] 82))
  have Qu_3 := hid (Ru_3.out.alloc (.cells #[.bool false, .slice none 0 0, .slice ko kn kc] 82))
  have Qv_3 := hid (Rv_3.out.alloc (.cells #[.bool false, .slice none 0 0, .slice ko kn kc] 82))
  have Qk_3 := hid (Rk_3.out.alloc (.cells #[.bool false, .slice none 0 0, .slice ko kn kc] 82))
  have HC_3 : Hid (Below w.heap.size w (w2.alloc (.cells #[.bool false, .slice none 0 0, .slice ko kn kc] 82))) := HB_3.out.alloc HB_3.out.size (.cells #[.bool false, .slice none 0 0, .slice ko kn kc] 82)
  go_wp2_with fail
  refine (pcmp_any uo vo un uc vn vc (p1 * q2) (p2 * q1) _ Qu_3.out Qv_3.out (by omega) (by omega)).mono ?_
  rintro e3 w3 ⟨rfl, hb3⟩
  have XA_4 := hid (YA_3.out.keep hb3)
  have XB_4 := hid (YB_3.out.keep hb3)
  have XR_4 := hid (YR_3.out.keep hb3)
  have XX_4 := hid (YX_3.out.keep hb3)
  have R0_4 := hid (Q0_3.out.below hb3)
  have R1_4 := hid (Q1_3.out.below hb3)
  have R2_4 := hid (Q2_3.out.below hb3)
  have R3_4 := hid (Q3_3.out.below hb3)
  have Ru_4 := hid (Qu_3.out.below hb3)
  have Rv_4 := hid (Qv_3.out.below hb3)
  have Rk_4 := hid (Qk_3.out.below hb3)
  have HB_4 : Hid (Below w.heap.size w w3) := HC_3.out.trans (hb3.mono HC_3.out.size)
  clear ltA cA0 cA1 cA2 ltB cB0 cB1 cB2 ltR cR0 zR0 cR1 zR1 cR2 zR2
  have ltA := XA_4.out.lt
  have cA0 := XA_4.out.cell 0 _ rfl
  have cA1 := XA_4.out.cell 1 _ rfl
  have cA2 := XA_4.out.cell 2 _ rfl
  have ltB := XB_4.out.lt
  have cB0 := XB_4.out.cell 0 _ rfl
  have cB1 := XB_4.out.cell 1 _ rfl
  have cB2 := XB_4.out.cell 2 _ rfl
  have ltR := XR_4.out.lt
  have cR0 := XR_4.out.cell 0 _ rfl
  have zR0 := XR_4.out.frozen 0
  have cR1 := XR_4.out.cell 1 _ rfl
  have zR1 := XR_4.out.frozen 1
  have cR2 := XR_4.out.cell 2 _ rfl
  have zR2 := XR_4.out.frozen 2
  have ltX := XX_4.out.lt
  have cX0 := XX_4.out.cell 0 _ rfl
  have zX0 := XX_4.out.frozen 0
  have cX1 := XX_4.out.cell 1 _ rfl
  have zX1 := XX_4.out.frozen 1
  have cX2 := XX_4.out.cell 2 _ rfl
  have zX2 := XX_4.out.frozen 2
  clear hb3
  rw [hc.out]
  go_wp2_with fail
  obtain ⟨V, hV⟩ : ∃ V, V = w3.setCell ⟨w2.heap.size, 0, none⟩ (.bool true) := ⟨_, rfl⟩
  rw [← hV]
  have VA := hid (XA_4.out.other ⟨w2.heap.size, 0, none⟩ (.bool true) (by show w2.heap.size ≠ _; omega))
  have VB := hid (XB_4.out.other ⟨w2.heap.size, 0, none⟩ (.bool true) (by show w2.heap.size ≠ _; omega))
  have VR := hid (XR_4.out.other ⟨w2.heap.size, 0, none⟩ (.bool true) (by show w2.heap.size ≠ _; omega))
  have VX := hid (XX_4.out.set0 (.bool true))
  have U0 := hid (R0_4.out.other w2.heap.size 0 (.bool true) XX_4.out (by decide))
  have U1 := hid (R1_4.out.other w2.heap.size 0 (.bool true) XX_4.out (by decide))
  have U2 := hid (R2_4.out.other w2.heap.size 0 (.bool true) XX_4.out (by decide))
  have U3 := hid (R3_4.out.other w2.heap.size 0 (.bool true) XX_4.out (by decide))
  have Uu := hid (Ru_4.out.other w2.heap.size 0 (.bool true) XX_4.out (by decide))
  have Uv := hid (Rv_4.out.other w2.heap.size 0 (.bool true) XX_4.out (by decide))
  have Uk := hid (Rk_4.out.other w2.heap.size 0 (.bool true) XX_4.out (by decide))
  have VBel := hid (HB_4.out.setCell (p := ⟨w2.heap.size, 0, none⟩) (by show w.heap.size ≤ w2.heap.size; omega) (.bool true))
  rw [← hV] at VBel VA VB VR VX U0 U1 U2 U3 Uu Uv Uk
  clear hV
  refine (pless_any vo uo vn vc un uc (p2 * q1) (p1 * q2) _ Uv.out Uu.out (by omega) (by omega) hle.out).mono ?_
  rintro e4 w4 ⟨v4, rfl, ⟨so, sn, sc, rfl, hr4, _⟩, hb4⟩
  have XA_5 := hid (VA.out.keep hb4)
  have XB_5 := hid (VB.out.keep hb4)
  have XR_5 := hid (VR.out.keep hb4)
  have XX_5 := hid (VX.out.keep hb4)
  have R0_5 := hid (U0.out.below hb4)
  have R1_5 := hid (U1.out.below hb4)
  have R2_5 := hid (U2.out.below hb4)
  have R3_5 := hid (U3.out.below hb4)
  have Ru_5 := hid (Uu.out.below hb4)
  have Rv_5 := hid (Uv.out.below hb4)
  have Rk_5 := hid (Uk.out.below hb4)
  have HB_5 : Hid (Below w.heap.size w w4) := VBel.out.trans (hb4.mono VBel.out.size)
  clear ltA cA0 cA1 cA2 ltB cB0 cB1 cB2 ltR cR0 zR0 cR1 zR1 cR2 zR2 ltX cX0 zX0 cX1 zX1 cX2 zX2
  have ltA := XA_5.out.lt
  have cA0 := XA_5.out.cell 0 _ rfl
  have cA1 := XA_5.out.cell 1 _ rfl
  have cA2 := XA_5.out.cell 2 _ rfl
  have ltB := XB_5.out.lt
  have cB0 := XB_5.out.cell 0 _ rfl
  have cB1 := XB_5.out.cell 1 _ rfl
  have cB2 := XB_5.out.cell 2 _ rfl
  have ltR := XR_5.out.lt
  have cR0 := XR_5.out.cell 0 _ rfl
  have zR0 := XR_5.out.frozen 0
  have cR1 := XR_5.out.cell 1 _ rfl
  have zR1 := XR_5.out.frozen 1
  have cR2 := XR_5.out.cell 2 _ rfl
  have zR2 := XR_5.out.frozen 2
  have ltX := XX_5.out.lt
  have cX0 := XX_5.out.cell 0 _ rfl
  have zX0 := XX_5.out.frozen 0
  have cX1 := XX_5.out.cell 1 _ rfl
  have zX1 := XX_5.out.frozen 1
  have cX2 := XX_5.out.cell 2 _ rfl
  have zX2 := XX_5.out.frozen 2
  have RS := hid hr4
  clear hb4 hr4
  go_wp2
  have P1 := XX_5.out.set1 (.slice so sn sc)
  have P0 := XR_5.out.other ⟨w2.heap.size, 1, none⟩ (.slice so sn sc) (by show w2.heap.size ≠ _; omega)
  have Z := P0.put3 (.bool true) (.slice so sn sc) (.slice ko kn kc)
  have z0 := Z.cell 0 _ rfl
  have z1 := Z.cell 1 _ rfl
  have z2 := Z.cell 2 _ rfl
  unfold wput3 at z0 z1 z2
  have BB := below_put3 (HB_5.out.setCell (p := ⟨w2.heap.size, 1, none⟩) (by show w.heap.size ≤ w2.heap.size; omega) (.slice so sn sc)) (by omega : w.heap.size ≤ w.heap.size + 1 + 1) (.bool true) (.slice so sn sc) (.slice ko kn kc)
  refine bodyPost_ret (v := .agg #[.bool true, .slice so sn sc, .slice ko kn kc]) (by simp [results, Tryd.results54, go_sem, z0, z1, z2]) rfl ⟨_, true, p2 * q1 - p1 * q2, rfl, hsg.out, ?_, ⟨so, sn, sc, ko, kn, kc, rfl, ?_, ?_⟩, BB⟩
  · omega
  · exact (RS.out.other _ _ _ XX_5.out (by decide)).put3 P0 (by decide) _ _ _
  · exact (Rk_5.out.other _ _ _ XX_5.out (by decide)).put3 P0 (by decide) _ _ _

set_option maxHeartbeats 2000000 in
set_option maxRecDepth 20000 in
theorem psum_tf_ge (ao bo co eo : Option Addr) (n capa m capb p capc q capd : Nat) (p1 q1 p2 q2 : Nat) (w : World) (h1 : Row w ao n capa (limbs p1)) (h2 : Row w bo m capb (limbs q1)) (h3 : Row w co p capc (limbs p2)) (h4 : Row w eo q capd (limbs q2)) (b1 : n ≤ 1000) (b2 : m ≤ 1000) (b3 : p ≤ 1000) (b4 : q ≤ 1000) (hle : Hid (p2 * q1 ≤ p1 * q2)) :
    Calls Tryd.prog 54 #[.agg #[.bool true, .slice ao n capa, .slice bo m capb], .agg #[.bool false, .slice co p capc, .slice eo q capd]] w fun e w' => ∃ v m z, e = .returned v ∧ sg m z = sg true (p1 * q2) + sg false (p2 * q1) ∧ z ≤ p1 * q2 + p2 * q1 ∧ PNv w' v m z (q1 * q2) ∧ Below w.heap.size w w' := by
  have hsg : Hid (sg true (p1 * q2 - p2 * q1) = sg true (p1 * q2) + sg false (p2 * q1)) := (sg_less _ _ _ _ (by decide) hle.out).symm
  obtain ⟨C, hC0, hc⟩ : ∃ C : Int, 0 ≤ C ∧ Hid (cmp3 ((p1 * q2 : Nat) : Int) ((p2 * q1 : Nat) : Int) = C) := ⟨_, by have := hle.out; unfold cmp3; rw [if_neg (by omega)]; split <;> omega, rfl⟩
  obtain ⟨c1, c2, c3, c5⟩ := boxes3 w #[.bool true, .slice ao n capa, .slice bo m capb] #[.bool false, .slice co p capc, .slice eo q capd] #[.bool false, .slice none 0 0, .slice none 0 0] 82 82 82
  have R0_0 := hid (h1.below c5)
  have len0 := h1.len
  have R1_0 := hid (h2.below c5)
  have len1 := h2.len
  have R2_0 := hid (h3.below c5)
  have len2 := h3.len
  have R3_0 := hid (h4.below c5)
  have len3 := h4.len
  have XA_0 := hid c1
  have XB_0 := hid c2
  have XR_0 := hid c3
  have HB_0 := hid c5
  clear h1 h2 h3 h4 c1 c2 c3 c5
  go_enter Tryd.func54, Tryd.ntmps54
  go_wp2_with fail
  refine (ptimes_any ao eo n capa q capd p1 q2 _ R0_0.out R3_0.out (by omega) (by omega)).mono ?_
  rintro e0 w0 ⟨v0, rfl, ⟨uo, un, uc, rfl, hr0, _⟩, hb0⟩
  have XA_1 := hid (XA_0.out.keep hb0)
  have XB_1 := hid (XB_0.out.keep hb0)
  have XR_1 := hid (XR_0.out.keep hb0)
  have R0_1 := hid (R0_0.out.below hb0)
  have R1_1 := hid (R1_0.out.below hb0)
  have R2_1 := hid (R2_0.out.below hb0)
  have R3_1 := hid (R3_0.out.below hb0)
  have HB_1 : Hid (Below w.heap.size w w0) := HB_0.out.trans (hb0.mono HB_0.out.size)
  have ltA := XA_1.out.lt
  have cA0 := XA_1.out.cell 0 _ rfl
  have cA1 := XA_1.out.cell 1 _ rfl
  have cA2 := XA_1.out.cell 2 _ rfl
  have ltB := XB_1.out.lt
  have cB0 := XB_1.out.cell 0 _ rfl
  have cB1 := XB_1.out.cell 1 _ rfl
  have cB2 := XB_1.out.cell 2 _ rfl
  have ltR := XR_1.out.lt
  have cR0 := XR_1.out.cell 0 _ rfl
  have zR0 := XR_1.out.frozen 0
  have cR1 := XR_1.out.cell 1 _ rfl
  have zR1 := XR_1.out.frozen 1
  have cR2 := XR_1.out.cell 2 _ rfl
  have zR2 := XR_1.out.frozen 2
  have Ru_1 := hid hr0
  have lenu := hr0.len
  have bdu : un ≤ 2000 := by rw [← lenu]; exact Nat.le_trans (prod_len len0 len3) (by omega)
  clear hb0 hr0
  go_wp2_with fail
  refine (ptimes_any co bo p capc m capb p2 q1 _ R2_1.out R1_1.out (by omega) (by omega)).mono ?_
  rintro e1 w1 ⟨v1, rfl, ⟨vo, vn, vc, rfl, hr1, _⟩, hb1⟩
  have XA_2 := hid (XA_1.out.keep hb1)
  have XB_2 := hid (XB_1.out.keep hb1)
  have XR_2 := hid (XR_1.out.keep hb1)
  have R0_2 := hid (R0_1.out.below hb1)
  have R1_2 := hid (R1_1.out.below hb1)
  have R2_2 := hid (R2_1.out.below hb1)
  have R3_2 := hid (R3_1.out.below hb1)
  have Ru_2 := hid (Ru_1.out.below hb1)
  have HB_2 : Hid (Below w.heap.size w w1) := HB_1.out.trans (hb1.mono HB_1.out.size)
  clear ltA cA0 cA1 cA2 ltB cB0 cB1 cB2 ltR cR0 zR0 cR1 zR1 cR2 zR2
  have ltA := XA_2.out.lt
  have cA0 := XA_2.out.cell 0 _ rfl
  have cA1 := XA_2.out.cell 1 _ rfl
  have cA2 := XA_2.out.cell 2 _ rfl
  have ltB := XB_2.out.lt
  have cB0 := XB_2.out.cell 0 _ rfl
  have cB1 := XB_2.out.cell 1 _ rfl
  have cB2 := XB_2.out.cell 2 _ rfl
  have ltR := XR_2.out.lt
  have cR0 := XR_2.out.cell 0 _ rfl
  have zR0 := XR_2.out.frozen 0
  have cR1 := XR_2.out.cell 1 _ rfl
  have zR1 := XR_2.out.frozen 1
  have cR2 := XR_2.out.cell 2 _ rfl
  have zR2 := XR_2.out.frozen 2
  have Rv_2 := hid hr1
  have lenv := hr1.len
  have bdv : vn ≤ 2000 := by rw [← lenv]; exact Nat.le_trans (prod_len len2 len1) (by omega)
  clear hb1 hr1
  go_wp2_with fail
  refine (ptimes_any bo eo m capb q capd q1 q2 _ R1_2.out R3_2.out (by omega) (by omega)).mono ?_
  rintro e2 w2 ⟨v2, rfl, ⟨ko, kn, kc, rfl, hr2, _⟩, hb2⟩
  have XA_3 := hid (XA_2.out.keep hb2)
  have XB_3 := hid (XB_2.out.keep hb2)
  have XR_3 := hid (XR_2.out.keep hb2)
  have R0_3 := hid (R0_2.out.below hb2)
  have R1_3 := hid (R1_2.out.below hb2)
  have R2_3 := hid (R2_2.out.below hb2)
  have R3_3 := hid (R3_2.out.below hb2)
  have Ru_3 := hid (Ru_2.out.below hb2)
  have Rv_3 := hid (Rv_2.out.below hb2)
  have HB_3 : Hid (Below w.heap.size w w2) := HB_2.out.trans (hb2.mono HB_2.out.size)
  clear ltA cA0 cA1 cA2 ltB cB0 cB1 cB2 ltR cR0 zR0 cR1 zR1 cR2 zR2
  have ltA := XA_3.out.lt
  have cA0 := XA_3.out.cell 0 _ rfl
  have cA1 := XA_3.out.cell 1 _ rfl
  have cA2 := XA_3.out.cell 2 _ rfl
  have ltB := XB_3.out.lt
  have cB0 := XB_3.out.cell 0 _ rfl
  have cB1 := XB_3.out.cell 1 _ rfl
  have cB2 := XB_3.out.cell 2 _ rfl
  have ltR := XR_3.out.lt
  have cR0 := XR_3.out.cell 0 _ rfl
  have zR0 := XR_3.out.frozen 0
  have cR1 := XR_3.out.cell 1 _ rfl
  have zR1 := XR_3.out.frozen 1
  have cR2 := XR_3.out.cell 2 _ rfl
  have zR2 := XR_3.out.frozen 2
  have Rk_3 := hid hr2
  have lenk := hr2.len
  have bdk : kn ≤ 2000 := by rw [← lenk]; exact Nat.le_trans (prod_len len1 len3) (by omega)
  clear hb2 hr2
  have nA := XA_3.out.lt
  have nB := XB_3.out.lt
  have nR := XR_3.out.lt
  have YA_3 := hid (bx_past XA_3.out (.cells #[.bool false, .slice none 0 0, .slice ko kn kc] 82))
  have YB_3 := hid (bx_past XB_3.out (.cells #[.bool false, .slice none 0 0, .slice ko kn kc] 82))
  have YR_3 := hid (bx_past XR_3.out (.cells #[.bool false, .slice none 0 0, .slice ko kn kc] 82))
  have YX_3 := hid (bx_new w2 #[.bool false, .slice none 0 0, .slice ko kn kc] 82)
  have Q0_3 := hid (R0_3.out.alloc (.cells #[.bool false, .slice none 0 0, .slice ko kn kc] 82))
  have Q1_3 := hid (R1_3.out.alloc (.cells #[.bool false, .slice none 0 0, .slice ko kn kc] 82))
  have Q2_3 := hid (R2_3.out.alloc (.cells #[.bool false, .slice none 0 0, .slice ko kn kc] 82))
  have Q3_3 := hid (R3_3.out.alloc (.cells #[.bool false, .slice none 0 0, .slice ko kn kc] 82))
  have Qu_3 := hid (Ru_3.out.alloc (.cells #[.bool false, .slice none 0 0, .slice ko kn kc] 82))
  have Qv_3 := hid (Rv_3.out.alloc (.cells #[.bool false, .slice none 0 0, .slice ko kn kc] 82))
  have Qk_3 := hid (Rk_3.out.alloc (.cells #[.bool false, .slice none 0 0, .slice ko kn kc] 82))
  have HC_3 : Hid (Below w.heap.size w (w2.alloc (.cells #[.bool false, .slice none 0 0, .slice ko kn kc] 82))) := HB_3.out.alloc HB_3.out.size (.cells #[.bool false, .slice none 0 0, .slice ko kn kc] 82)
  go_wp2_with fail
  refine (pcmp_any uo vo un uc vn vc (p1 * q2) (p2 * q1) _ Qu_3.out Qv_3.out (by omega) (by omega)).mono ?_
  rintro e3 w3 ⟨rfl, hb3⟩
  have XA_4 := hid (YA_3.out.keep hb3)
  have XB_4 := hid (YB_3.out.keep hb3)
  have XR_4 := hid (YR_3.out.keep hb3)
  have XX_4 := hid (YX_3.out.keep hb3)
  have R0_4 := hid (Q0_3.out.below hb3)
  have R1_4 := hid (Q1_3.out.below hb3)
  have R2_4 := hid (Q2_3.out.below hb3)
  have R3_4 := hid (Q3_3.out.below hb3)
  have Ru_4 := hid (Qu_3.out.below hb3)
  have Rv_4 := hid (Qv_3.out.below hb3)
  have Rk_4 := hid (Qk_3.out.below hb3)
  have HB_4 : Hid (Below w.heap.size w w3) := HC_3.out.trans (hb3.mono HC_3.out.size)
  clear ltA cA0 cA1 cA2 ltB cB0 cB1 cB2 ltR cR0 zR0 cR1 zR1 cR2 zR2
  have ltA := XA_4.out.lt
  have cA0 := XA_4.out.cell 0 _ rfl
  have cA1 := XA_4.out.cell 1 _ rfl
  have cA2 := XA_4.out.cell 2 _ rfl
  have ltB := XB_4.out.lt
  have cB0 := XB_4.out.cell 0 _ rfl
  have cB1 := XB_4.out.cell 1 _ rfl
  have cB2 := XB_4.out.cell 2 _ rfl
  have ltR := XR_4.out.lt
  have cR0 := XR_4.out.cell 0 _ rfl
  have zR0 := XR_4.out.frozen 0
  have cR1 := XR_4.out.cell 1 _ rfl
  have zR1 := XR_4.out.frozen 1
  have cR2 := XR_4.out.cell 2 _ rfl
  have zR2 := XR_4.out.frozen 2
  have ltX := XX_4.out.lt
  have cX0 := XX_4.out.cell 0 _ rfl
  have zX0 := XX_4.out.frozen 0
  have cX1 := XX_4.out.cell 1 _ rfl
  have zX1 := XX_4.out.frozen 1
  have cX2 := XX_4.out.cell 2 _ rfl
  have zX2 := XX_4.out.frozen 2
  clear hb3
  rw [hc.out]
  go_wp2_with fail
  obtain ⟨V, hV⟩ : ∃ V, V = w3.setCell ⟨w2.heap.size, 0, none⟩ (.bool true) := ⟨_, rfl⟩
  rw [← hV]
  have VA := hid (XA_4.out.other ⟨w2.heap.size, 0, none⟩ (.bool true) (by show w2.heap.size ≠ _; omega))
  have VB := hid (XB_4.out.other ⟨w2.heap.size, 0, none⟩ (.bool true) (by show w2.heap.size ≠ _; omega))
  have VR := hid (XR_4.out.other ⟨w2.heap.size, 0, none⟩ (.bool true) (by show w2.heap.size ≠ _; omega))
  have VX := hid (XX_4.out.set0 (.bool true))
  have U0 := hid (R0_4.out.other w2.heap.size 0 (.bool true) XX_4.out (by decide))
  have U1 := hid (R1_4.out.other w2.heap.size 0 (.bool true) XX_4.out (by decide))
  have U2 := hid (R2_4.out.other w2.heap.size 0 (.bool true) XX_4.out (by decide))
  have U3 := hid (R3_4.out.other w2.heap.size 0 (.bool true) XX_4.out (by decide))
  have Uu := hid (Ru_4.out.other w2.heap.size 0 (.bool true) XX_4.out (by decide))
  have Uv := hid (Rv_4.out.other w2.heap.size 0 (.bool true) XX_4.out (by decide))
  have Uk := hid (Rk_4.out.other w2.heap.size 0 (.bool true) XX_4.out (by decide))
  have VBel := hid (HB_4.out.setCell (p := ⟨w2.heap.size, 0, none⟩) (by show w.heap.size ≤ w2.heap.size; omega) (.bool true))
  rw [← hV] at VBel VA VB VR VX U0 U1 U2 U3 Uu Uv Uk
  clear hV
  refine (pless_any uo vo un uc vn vc (p1 * q2) (p2 * q1) _ Uu.out Uv.out (by omega) (by omega) hle.out).mono ?_
  rintro e4 w4 ⟨v4, rfl, ⟨so, sn, sc, rfl, hr4, _⟩, hb4⟩
  have XA_5 := hid (VA.out.keep hb4)
  have XB_5 := hid (VB.out.keep hb4)
  have XR_5 := hid (VR.out.keep hb4)
  have XX_5 := hid (VX.out.keep hb4)
  have R0_5 := hid (U0.out.below hb4)
  have R1_5 := hid (U1.out.below hb4)
  have R2_5 := hid (U2.out.below hb4)
  have R3_5 := hid (U3.out.below hb4)
  have Ru_5 := hid (Uu.out.below hb4)
  have Rv_5 := hid (Uv.out.below hb4)
  have Rk_5 := hid (Uk.out.below hb4)
  have HB_5 : Hid (Below w.heap.size w w4) := VBel.out.trans (hb4.mono VBel.out.size)
  clear ltA cA0 cA1 cA2 ltB cB0 cB1 cB2 ltR cR0 zR0 cR1 zR1 cR2 zR2 ltX cX0 zX0 cX1 zX1 cX2 zX2
  have ltA := XA_5.out.lt
  have cA0 := XA_5.out.cell 0 _ rfl
  have cA1 := XA_5.out.cell 1 _ rfl
  have cA2 := XA_5.out.cell 2 _ rfl
  have ltB := XB_5.out.lt
  have cB0 := XB_5.out.cell 0 _ rfl
  have cB1 := XB_5.out.cell 1 _ rfl
  have cB2 := XB_5.out.cell 2 _ rfl
  have ltR := XR_5.out.lt
  have cR0 := XR_5.out.cell 0 _ rfl
  have zR0 := XR_5.out.frozen 0
  have cR1 := XR_5.out.cell 1 _ rfl
  have zR1 := XR_5.out.frozen 1
  have cR2 := XR_5.out.cell 2 _ rfl
  have zR2 := XR_5.out.frozen 2
  have ltX := XX_5.out.lt
  have cX0 := XX_5.out.cell 0 _ rfl
  have zX0 := XX_5.out.frozen 0
  have cX1 := XX_5.out.cell 1 _ rfl
  have zX1 := XX_5.out.frozen 1
  have cX2 := XX_5.out.cell 2 _ rfl
  have zX2 := XX_5.out.frozen 2
  have RS := hid hr4
  clear hb4 hr4
  go_wp2
  have P1 := XX_5.out.set1 (.slice so sn sc)
  have P0 := XR_5.out.other ⟨w2.heap.size, 1, none⟩ (.slice so sn sc) (by show w2.heap.size ≠ _; omega)
  have Z := P0.put3 (.bool true) (.slice so sn sc) (.slice ko kn kc)
  have z0 := Z.cell 0 _ rfl
  have z1 := Z.cell 1 _ rfl
  have z2 := Z.cell 2 _ rfl
  unfold wput3 at z0 z1 z2
  have BB := below_put3 (HB_5.out.setCell (p := ⟨w2.heap.size, 1, none⟩) (by show w.heap.size ≤ w2.heap.size; omega) (.slice so sn sc)) (by omega : w.heap.size ≤ w.heap.size + 1 + 1) (.bool true) (.slice so sn sc) (.slice ko kn kc)
  refine bodyPost_ret (v := .agg #[.bool true, .slice so sn sc, .slice ko kn kc]) (by simp [results, Tryd.results54, go_sem, z0, z1, z2]) rfl ⟨_, true, p1 * q2 - p2 * q1, rfl, hsg.out, ?_, ⟨so, sn, sc, ko, kn, kc, rfl, ?_, ?_⟩, BB⟩
  · omega
  · exact (RS.out.other _ _ _ XX_5.out (by decide)).put3 P0 (by decide) _ _ _
  · exact (Rk_5.out.other _ _ _ XX_5.out (by decide)).put3 P0 (by decide) _ _ _

set_option maxHeartbeats 2000000 in
set_option maxRecDepth 20000 in
theorem psum_tf_lt (ao bo co eo : Option Addr) (n capa m capb p capc q capd : Nat) (p1 q1 p2 q2 : Nat) (w : World) (h1 : Row w ao n capa (limbs p1)) (h2 : Row w bo m capb (limbs q1)) (h3 : Row w co p capc (limbs p2)) (h4 : Row w eo q capd (limbs q2)) (b1 : n ≤ 1000) (b2 : m ≤ 1000) (b3 : p ≤ 1000) (b4 : q ≤ 1000) (hlt : Hid (p1 * q2 < p2 * q1)) (hle : Hid (p1 * q2 ≤ p2 * q1)) :
    Calls Tryd.prog 54 #[.agg #[.bool true, .slice ao n capa, .slice bo m capb], .agg #[.bool false, .slice co p capc, .slice eo q capd]] w fun e w' => ∃ v m z, e = .returned v ∧ sg m z = sg true (p1 * q2) + sg false (p2 * q1) ∧ z ≤ p1 * q2 + p2 * q1 ∧ PNv w' v m z (q1 * q2) ∧ Below w.heap.size w w' := by
  have hsg : Hid (sg false (p2 * q1 - p1 * q2) = sg true (p1 * q2) + sg false (p2 * q1)) := (sg_more _ _ _ _ (by decide) hle.out).symm
  have hc : Hid (cmp3 ((p1 * q2 : Nat) : Int) ((p2 * q1 : Nat) : Int) = -1) := by have := hlt.out; show _ = _; unfold cmp3; rw [if_pos (by omega)]
  obtain ⟨c1, c2, c3, c5⟩ := boxes3 w #[.bool true, .slice ao n capa, .slice bo m capb] #[.bool false, .slice co p capc, .slice eo q capd] #[.bool false, .slice none 0 0, .slice none 0 0] 82 82 82
  have R0_0 := hid (h1.below c5)
  have len0 := h1.len
  have R1_0 := hid (h2.below c5)
  have len1 := h2.len
  have R2_0 := hid (h3.below c5)
  have len2 := h3.len
  have R3_0 := hid (h4.below c5)
  have len3 := h4.len
  have XA_0 := hid c1
  have XB_0 := hid c2
  have XR_0 := hid c3
  have HB_0 := hid c5
  clear h1 h2 h3 h4 c1 c2 c3 c5
  go_enter Tryd.func54, Tryd.ntmps54
  go_wp2_with fail
  refine (ptimes_any ao eo n capa q capd p1 q2 _ R0_0.out R3_0.out (by omega) (by omega)).mono ?_
  rintro e0 w0 ⟨v0, rfl, ⟨uo, un, uc, rfl, hr0, _⟩, hb0⟩
  have XA_1 := hid (XA_0.out.keep hb0)
  have XB_1 := hid (XB_0.out.keep hb0)
  have XR_1 := hid (XR_0.out.keep hb0)
  have R0_1 := hid (R0_0.out.below hb0)
  have R1_1 := hid (R1_0.out.below hb0)
  have R2_1 := hid (R2_0.out.below hb0)
  have R3_1 := hid (R3_0.out.below hb0)
  have HB_1 : Hid (Below w.heap.size w w0) := HB_0.out.trans (hb0.mono HB_0.out.size)
  have ltA := XA_1.out.lt
  have cA0 := XA_1.out.cell 0 _ rfl
  have cA1 := XA_1.out.cell 1 _ rfl
  have cA2 := XA_1.out.cell 2 _ rfl
  have ltB := XB_1.out.lt
  have cB0 := XB_1.out.cell 0 _ rfl
  have cB1 := XB_1.out.cell 1 _ rfl
  have cB2 := XB_1.out.cell 2 _ rfl
  have ltR := XR_1.out.lt
  have cR0 := XR_1.out.cell 0 _ rfl
  have zR0 := XR_1.out.frozen 0
  have cR1 := XR_1.out.cell 1 _ rfl
  have zR1 := XR_1.out.frozen 1
  have cR2 := XR_1.out.cell 2 _ rfl
  have zR2 := XR_1.out.frozen 2
  have Ru_1 := hid hr0
  have lenu := hr0.len
  have bdu : un ≤ 2000 := by rw [← lenu]; exact Nat.le_trans (prod_len len0 len3) (by omega)
  clear hb0 hr0
  go_wp2_with fail
  refine (ptimes_any co bo p capc m capb p2 q1 _ R2_1.out R1_1.out (by omega) (by omega)).mono ?_
  rintro e1 w1 ⟨v1, rfl, ⟨vo, vn, vc, rfl, hr1, _⟩, hb1⟩
  have XA_2 := hid (XA_1.out.keep hb1)
  have XB_2 := hid (XB_1.out.keep hb1)
  have XR_2 := hid (XR_1.out.keep hb1)
  have R0_2 := hid (R0_1.out.below hb1)
  have R1_2 := hid (R1_1.out.below hb1)
  have R2_2 := hid (R2_1.out.below hb1)
  have R3_2 := hid (R3_1.out.below hb1)
  have Ru_2 := hid (Ru_1.out.below hb1)
  have HB_2 : Hid (Below w.heap.size w w1) := HB_1.out.trans (hb1.mono HB_1.out.size)
  clear ltA cA0 cA1 cA2 ltB cB0 cB1 cB2 ltR cR0 zR0 cR1 zR1 cR2 zR2
  have ltA := XA_2.out.lt
  have cA0 := XA_2.out.cell 0 _ rfl
  have cA1 := XA_2.out.cell 1 _ rfl
  have cA2 := XA_2.out.cell 2 _ rfl
  have ltB := XB_2.out.lt
  have cB0 := XB_2.out.cell 0 _ rfl
  have cB1 := XB_2.out.cell 1 _ rfl
  have cB2 := XB_2.out.cell 2 _ rfl
  have ltR := XR_2.out.lt
  have cR0 := XR_2.out.cell 0 _ rfl
  have zR0 := XR_2.out.frozen 0
  have cR1 := XR_2.out.cell 1 _ rfl
  have zR1 := XR_2.out.frozen 1
  have cR2 := XR_2.out.cell 2 _ rfl
  have zR2 := XR_2.out.frozen 2
  have Rv_2 := hid hr1
  have lenv := hr1.len
  have bdv : vn ≤ 2000 := by rw [← lenv]; exact Nat.le_trans (prod_len len2 len1) (by omega)
  clear hb1 hr1
  go_wp2_with fail
  refine (ptimes_any bo eo m capb q capd q1 q2 _ R1_2.out R3_2.out (by omega) (by omega)).mono ?_
  rintro e2 w2 ⟨v2, rfl, ⟨ko, kn, kc, rfl, hr2, _⟩, hb2⟩
  have XA_3 := hid (XA_2.out.keep hb2)
  have XB_3 := hid (XB_2.out.keep hb2)
  have XR_3 := hid (XR_2.out.keep hb2)
  have R0_3 := hid (R0_2.out.below hb2)
  have R1_3 := hid (R1_2.out.below hb2)
  have R2_3 := hid (R2_2.out.below hb2)
  have R3_3 := hid (R3_2.out.below hb2)
  have Ru_3 := hid (Ru_2.out.below hb2)
  have Rv_3 := hid (Rv_2.out.below hb2)
  have HB_3 : Hid (Below w.heap.size w w2) := HB_2.out.trans (hb2.mono HB_2.out.size)
  clear ltA cA0 cA1 cA2 ltB cB0 cB1 cB2 ltR cR0 zR0 cR1 zR1 cR2 zR2
  have ltA := XA_3.out.lt
  have cA0 := XA_3.out.cell 0 _ rfl
  have cA1 := XA_3.out.cell 1 _ rfl
  have cA2 := XA_3.out.cell 2 _ rfl
  have ltB := XB_3.out.lt
  have cB0 := XB_3.out.cell 0 _ rfl
  have cB1 := XB_3.out.cell 1 _ rfl
  have cB2 := XB_3.out.cell 2 _ rfl
  have ltR := XR_3.out.lt
  have cR0 := XR_3.out.cell 0 _ rfl
  have zR0 := XR_3.out.frozen 0
  have cR1 := XR_3.out.cell 1 _ rfl
  have zR1 := XR_3.out.frozen 1
  have cR2 := XR_3.out.cell 2 _ rfl
  have zR2 := XR_3.out.frozen 2
  have Rk_3 := hid hr2
  have lenk := hr2.len
  have bdk : kn ≤ 2000 := by rw [← lenk]; exact Nat.le_trans (prod_len len1 len3) (by omega)
  clear hb2 hr2
  have nA := XA_3.out.lt
  have nB := XB_3.out.lt
  have nR := XR_3.out.lt
  have YA_3 := hid (bx_past XA_3.out (.cells #[.bool false, .slice none 0 0, .slice ko kn kc] 82))
  have YB_3 := hid (bx_past XB_3.out (.cells #[.bool false, .slice none 0 0, .slice ko kn kc] 82))
  have YR_3 := hid (bx_past XR_3.out (.cells #[.bool false, .slice none 0 0, .slice ko kn kc] 82))
  have YX_3 := hid (bx_new w2 #[.bool false, .slice none 0 0, .slice ko kn kc] 82)
  have Q0_3 := hid (R0_3.out.alloc (.cells #[.bool false, .slice none 0 0, .slice ko kn kc] 82))
  have Q1_3 := hid (R1_3.out.alloc (.cells #[.bool false, .slice none 0 0, .slice ko kn kc] 82))
  have Q2_3 := hid (R2_3.out.alloc (.cells #[.bool false, .slice none 0 0, .slice ko kn kc] 82))
  have Q3_3 := hid (R3_3.out.alloc (.cells #[.bool false, .slice none 0 0, .slice ko kn kc] 82))
  have Qu_3 := hid (Ru_3.out.alloc (.cells #[.bool false, .slice none 0 0, .slice ko kn kc] 82))
  have Qv_3 := hid (Rv_3.out.alloc (.cells #[.bool false, .slice none 0 0, .slice ko kn kc] 82))
  have Qk_3 := hid (Rk_3.out.alloc (.cells #[.bool false, .slice none 0 0, .slice ko kn kc] 82))
  have HC_3 : Hid (Below w.heap.size w (w2.alloc (.cells #[.bool false, .slice none 0 0, .slice ko kn kc] 82))) := HB_3.out.alloc HB_3.out.size (.cells #[.bool false, .slice none 0 0, .slice ko kn kc] 82)
  go_wp2_with fail
  refine (pcmp_any uo vo un uc vn vc (p1 * q2) (p2 * q1) _ Qu_3.out Qv_3.out (by omega) (by omega)).mono ?_
  rintro e3 w3 ⟨rfl, hb3⟩
  have XA_4 := hid (YA_3.out.keep hb3)
  have XB_4 := hid (YB_3.out.keep hb3)
  have XR_4 := hid (YR_3.out.keep hb3)
  have XX_4 := hid (YX_3.out.keep hb3)
  have R0_4 := hid (Q0_3.out.below hb3)
  have R1_4 := hid (Q1_3.out.below hb3)
  have R2_4 := hid (Q2_3.out.below hb3)
  have R3_4 := hid (Q3_3.out.below hb3)
  have Ru_4 := hid (Qu_3.out.below hb3)
  have Rv_4 := hid (Qv_3.out.below hb3)
  have Rk_4 := hid (Qk_3.out.below hb3)
  have HB_4 : Hid (Below w.heap.size w w3) := HC_3.out.trans (hb3.mono HC_3.out.size)
  clear ltA cA0 cA1 cA2 ltB cB0 cB1 cB2 ltR cR0 zR0 cR1 zR1 cR2 zR2
  have ltA := XA_4.out.lt
  have cA0 := XA_4.out.cell 0 _ rfl
  have cA1 := XA_4.out.cell 1 _ rfl
  have cA2 := XA_4.out.cell 2 _ rfl
  have ltB := XB_4.out.lt
  have cB0 := XB_4.out.cell 0 _ rfl
  have cB1 := XB_4.out.cell 1 _ rfl
  have cB2 := XB_4.out.cell 2 _ rfl
  have ltR := XR_4.out.lt
  have cR0 := XR_4.out.cell 0 _ rfl
  have zR0 := XR_4.out.frozen 0
  have cR1 := XR_4.out.cell 1 _ rfl
  have zR1 := XR_4.out.frozen 1
  have cR2 := XR_4.out.cell 2 _ rfl
  have zR2 := XR_4.out.frozen 2
  have ltX := XX_4.out.lt
  have cX0 := XX_4.out.cell 0 _ rfl
  have zX0 := XX_4.out.frozen 0
  have cX1 := XX_4.out.cell 1 _ rfl
  have zX1 := XX_4.out.frozen 1
  have cX2 := XX_4.out.cell 2 _ rfl
  have zX2 := XX_4.out.frozen 2
  clear hb3
  rw [hc.out]
  go_wp2_with fail
  obtain ⟨V, hV⟩ : ∃ V, V = w3.setCell ⟨w2.heap.size, 0, none⟩ (.bool false) := ⟨_, rfl⟩
  rw [← hV]
  have VA := hid (XA_4.out.other ⟨w2.heap.size, 0, none⟩ (.bool false) (by show w2.heap.size ≠ _; omega))
  have VB := hid (XB_4.out.other ⟨w2.heap.size, 0, none⟩ (.bool false) (by show w2.heap.size ≠ _; omega))
  have VR := hid (XR_4.out.other ⟨w2.heap.size, 0, none⟩ (.bool false) (by show w2.heap.size ≠ _; omega))
  have VX := hid (XX_4.out.set0 (.bool false))
  have U0 := hid (R0_4.out.other w2.heap.size 0 (.bool false) XX_4.out (by decide))
  have U1 := hid (R1_4.out.other w2.heap.size 0 (.bool false) XX_4.out (by decide))
  have U2 := hid (R2_4.out.other w2.heap.size 0 (.bool false) XX_4.out (by decide))
  have U3 := hid (R3_4.out.other w2.heap.size 0 (.bool false) XX_4.out (by decide))
  have Uu := hid (Ru_4.out.other w2.heap.size 0 (.bool false) XX_4.out (by decide))
  have Uv := hid (Rv_4.out.other w2.heap.size 0 (.bool false) XX_4.out (by decide))
  have Uk := hid (Rk_4.out.other w2.heap.size 0 (.bool false) XX_4.out (by decide))
  have VBel := hid (HB_4.out.setCell (p := ⟨w2.heap.size, 0, none⟩) (by show w.heap.size ≤ w2.heap.size; omega) (.bool false))
  rw [← hV] at VBel VA VB VR VX U0 U1 U2 U3 Uu Uv Uk
  clear hV
  refine (pless_any vo uo vn vc un uc (p2 * q1) (p1 * q2) _ Uv.out Uu.out (by omega) (by omega) hle.out).mono ?_
  rintro e4 w4 ⟨v4, rfl, ⟨so, sn, sc, rfl, hr4, _⟩, hb4⟩
  have XA_5 := hid (VA.out.keep hb4)
  have XB_5 := hid (VB.out.keep hb4)
  have XR_5 := hid (VR.out.keep hb4)
  have XX_5 := hid (VX.out.keep hb4)
  have R0_5 := hid (U0.out.below hb4)
  have R1_5 := hid (U1.out.below hb4)
  have R2_5 := hid (U2.out.below hb4)
  have R3_5 := hid (U3.out.below hb4)
  have Ru_5 := hid (Uu.out.below hb4)
  have Rv_5 := hid (Uv.out.below hb4)
  have Rk_5 := hid (Uk.out.below hb4)
  have HB_5 : Hid (Below w.heap.size w w4) := VBel.out.trans (hb4.mono VBel.out.size)
  clear ltA cA0 cA1 cA2 ltB cB0 cB1 cB2 ltR cR0 zR0 cR1 zR1 cR2 zR2 ltX cX0 zX0 cX1 zX1 cX2 zX2
  have ltA := XA_5.out.lt
  have cA0 := XA_5.out.cell 0 _ rfl
  have cA1 := XA_5.out.cell 1 _ rfl
  have cA2 := XA_5.out.cell 2 _ rfl
  have ltB := XB_5.out.lt
  have cB0 := XB_5.out.cell 0 _ rfl
  have cB1 := XB_5.out.cell 1 _ rfl
  have cB2 := XB_5.out.cell 2 _ rfl
  have ltR := XR_5.out.lt
  have cR0 := XR_5.out.cell 0 _ rfl
  have zR0 := XR_5.out.frozen 0
  have cR1 := XR_5.out.cell 1 _ rfl
  have zR1 := XR_5.out.frozen 1
  have cR2 := XR_5.out.cell 2 _ rfl
  have zR2 := XR_5.out.frozen 2
  have ltX := XX_5.out.lt
  have cX0 := XX_5.out.cell 0 _ rfl
  have zX0 := XX_5.out.frozen 0
  have cX1 := XX_5.out.cell 1 _ rfl
  have zX1 := XX_5.out.frozen 1
  have cX2 := XX_5.out.cell 2 _ rfl
  have zX2 := XX_5.out.frozen 2
  have RS := hid hr4
  clear hb4 hr4
  go_wp2
  have P1 := XX_5.out.set1 (.slice so sn sc)
  have P0 := XR_5.out.other ⟨w2.heap.size, 1, none⟩ (.slice so sn sc) (by show w2.heap.size ≠ _; omega)
  have Z := P0.put3 (.bool false) (.slice so sn sc) (.slice ko kn kc)
  have z0 := Z.cell 0 _ rfl
  have z1 := Z.cell 1 _ rfl
  have z2 := Z.cell 2 _ rfl
  unfold wput3 at z0 z1 z2
  have BB := below_put3 (HB_5.out.setCell (p := ⟨w2.heap.size, 1, none⟩) (by show w.heap.size ≤ w2.heap.size; omega) (.slice so sn sc)) (by omega : w.heap.size ≤ w.heap.size + 1 + 1) (.bool false) (.slice so sn sc) (.slice ko kn kc)
  refine bodyPost_ret (v := .agg #[.bool false, .slice so sn sc, .slice ko kn kc]) (by simp [results, Tryd.results54, go_sem, z0, z1, z2]) rfl ⟨_, false, p2 * q1 - p1 * q2, rfl, hsg.out, ?_, ⟨so, sn, sc, ko, kn, kc, rfl, ?_, ?_⟩, BB⟩
  · omega
  · exact (RS.out.other _ _ _ XX_5.out (by decide)).put3 P0 (by decide) _ _ _
  · exact (Rk_5.out.other _ _ _ XX_5.out (by decide)).put3 P0 (by decide) _ _ _

theorem psum_any (ma mb : Bool) (ao bo co eo : Option Addr) (n capa m capb p capc q capd : Nat) (p1 q1 p2 q2 : Nat) (w : World) (h1 : Row w ao n capa (limbs p1)) (h2 : Row w bo m capb (limbs q1)) (h3 : Row w co p capc (limbs p2)) (h4 : Row w eo q capd (limbs q2)) (b1 : n ≤ 1000) (b2 : m ≤ 1000) (b3 : p ≤ 1000) (b4 : q ≤ 1000) :
    Calls Tryd.prog 54 #[.agg #[.bool ma, .slice ao n capa, .slice bo m capb], .agg #[.bool mb, .slice co p capc, .slice eo q capd]] w fun e w' => ∃ v m z, e = .returned v ∧ sg m z = sg ma (p1 * q2) + sg mb (p2 * q1) ∧ z ≤ p1 * q2 + p2 * q1 ∧ PNv w' v m z (q1 * q2) ∧ Below w.heap.size w w' := by
  cases ma <;> cases mb
  · exact psum_ff_same ao bo co eo n capa m capb p capc q capd p1 q1 p2 q2 w h1 h2 h3 h4 b1 b2 b3 b4
  · by_cases h : p1 * q2 < p2 * q1
    · exact psum_ft_lt ao bo co eo n capa m capb p capc q capd p1 q1 p2 q2 w h1 h2 h3 h4 b1 b2 b3 b4 h (Nat.le_of_lt h)
    · exact psum_ft_ge ao bo co eo n capa m capb p capc q capd p1 q1 p2 q2 w h1 h2 h3 h4 b1 b2 b3 b4 (Nat.le_of_not_lt h)
  · by_cases h : p1 * q2 < p2 * q1
    · exact psum_tf_lt ao bo co eo n capa m capb p capc q capd p1 q1 p2 q2 w h1 h2 h3 h4 b1 b2 b3 b4 h (Nat.le_of_lt h)
    · exact psum_tf_ge ao bo co eo n capa m capb p capc q capd p1 q1 p2 q2 w h1 h2 h3 h4 b1 b2 b3 b4 (Nat.le_of_not_lt h)
  · exact psum_tt_same ao bo co eo n capa m capb p capc q capd p1 q1 p2 q2 w h1 h2 h3 h4 b1 b2 b3 b4
end Go.Proofs.YtigokanoflkinaaDoor

/- What portionref.Read needs. (Laid by mkrefr.py.) -/
namespace Go.Proofs.YtigokanoflkinaaDoor
set_option linter.unusedSimpArgs false
set_option linter.unusedVariables false
open Go.RowKit Por

theorem Bx.set2 {w : World} {b : Nat} {x0 x1 x2 : Value} {T : TypeId} (h : Bx w b #[x0, x1, x2] T) (u : Value) : Bx (w.setCell ⟨b, 2, none⟩ u) b #[x0, x1, u] T := by
  unfold Bx
  rw [heap_setCell_same w b 2 _ _ u h]; rfl
theorem bytes49 : (⟨#[49]⟩ : ByteArray).data.toList = [49] := rfl
theorem dv49 : dv [49] = 1 := by decide
theorem whole49 : wholeB [49] = true := by decide

end Go.Proofs.YtigokanoflkinaaDoor

/- portionref.Read, of texts with no minus: no fraction, 0, a whole number. (Laid by mkrefr.py.) -/
namespace Go.Proofs.YtigokanoflkinaaDoor
set_option linter.unusedSimpArgs false
set_option linter.unusedVariables false
open Go.RowKit Por

set_option maxHeartbeats 2000000 in
set_option maxRecDepth 20000 in
theorem pread1_false (t : ByteArray) (K : Nat) (w : World) (hK : slashAt t.data.toList = K) (hts : t.size ≤ 300) (hKt : K ≤ t.size) (h0 : 0 < t.size) (hm : ((t[0].toNat : Int) == 45) = false) (heq : ((K : Int) == (t.size : Int)) = true) (hnl : ¬ K < t.size) (hw : Hid (wholeB (t.data.toList.take K) = false)) :
    Calls Tryd.prog 93 #[.string t] w fun e w' => ∃ nb na nn nc oa on oc, e = .returned (.tuple #[.agg #[.bool nb, .slice na nn nc, .slice oa on oc], .bool false]) ∧ Below w.heap.size w w' := by
  obtain ⟨c1, c2, c5⟩ := boxes2 w #[.bool false, .slice none 0 0, .slice none 0 0] #[.bool false, .slice none 0 0, .slice none 0 0] 82 82
  have XR_0 := hid c1
  have XX_0 := hid c2
  have HB_0 := hid c5
  clear c1 c2 c5
  have hne : ((t.size : Int) == 0) = false := by rw [beq_eq_false_iff_ne]; omega
  have hs3 : (t.size : Int) ≤ 300 := by omega
  have HK := hid hK
  clear hK
  have hut : (t.extract 0 K).data.toList = t.data.toList.take K := ext_take t K
  have HUT := hid hut
  clear hut
  have hus : (t.extract 0 K).size ≤ 300 := by rw [ByteArray.size_extract]; omega
  go_enter Tryd.func93, Tryd.ntmps93
  go_wp2_with fail
  refine (pslash_any t _ (by omega)).mono ?_
  rintro e wz ⟨rfl, rfl⟩
  rw [HK.out]
  obtain ⟨V0, hV⟩ : ∃ V0, V0 = (w.alloc (.cells #[.bool false, .slice none 0 0, .slice none 0 0] 82)).alloc (.cells #[.bool false, .slice none 0 0, .slice none 0 0] 82) := ⟨_, rfl⟩
  rw [← hV] at XR_0 XX_0 HB_0 ⊢
  clear hV
  have ltR := XR_0.out.lt
  have cR0 := XR_0.out.cell 0 _ rfl
  have zR0 := XR_0.out.frozen 0
  have cR1 := XR_0.out.cell 1 _ rfl
  have zR1 := XR_0.out.frozen 1
  have cR2 := XR_0.out.cell 2 _ rfl
  have zR2 := XR_0.out.frozen 2
  have ltX := XX_0.out.lt
  have cX0 := XX_0.out.cell 0 _ rfl
  have zX0 := XX_0.out.frozen 0
  have cX1 := XX_0.out.cell 1 _ rfl
  have zX1 := XX_0.out.frozen 1
  have cX2 := XX_0.out.cell 2 _ rfl
  have zX2 := XX_0.out.frozen 2
  go_wp2_with fail
  refine (pdigits_any (t.extract 0 K) _ (by omega)).mono ?_
  rintro e1 wz1 ⟨rfl, rfl⟩
  rw [HUT.out, hw.out]
  go_wp2_with fail
  refine (pdigits_any ⟨#[49]⟩ _ (by decide)).mono ?_
  rintro e2 wz2 ⟨rfl, rfl⟩
  rw [bytes49, whole49]
  go_wp2
  have P0 := XR_0.out
  have Z := (P0.put3 (.bool false) (.slice none 0 0) (.slice none 0 0))
  have z0 := Z.cell 0 _ rfl
  have z1 := Z.cell 1 _ rfl
  have z2 := Z.cell 2 _ rfl
  unfold wput3 at z0 z1 z2
  have BB := (below_put3 HB_0.out (Nat.le_refl _) (.bool false) (.slice none 0 0) (.slice none 0 0))
  exact bodyPost_ret (v := .tuple #[.agg #[.bool false, .slice none 0 0, .slice none 0 0], .bool false]) (by simp [results, Tryd.results93, go_sem, z0, z1, z2]) rfl ⟨_, _, _, _, _, _, _, rfl, BB⟩

set_option maxHeartbeats 2000000 in
set_option maxRecDepth 20000 in
theorem pread2_false (t : ByteArray) (K : Nat) (w : World) (hK : slashAt t.data.toList = K) (hts : t.size ≤ 300) (hKt : K ≤ t.size) (h0 : 0 < t.size) (hm : ((t[0].toNat : Int) == 45) = false) (hne2 : ((K : Int) == (t.size : Int)) = false) (hlt : K < t.size) (vb : Bool) (hw : Hid (wholeB (t.data.toList.take K) = false)) (hv : Hid (wholeB (t.data.toList.drop (K + 1)) = vb)) :
    Calls Tryd.prog 93 #[.string t] w fun e w' => ∃ nb na nn nc oa on oc, e = .returned (.tuple #[.agg #[.bool nb, .slice na nn nc, .slice oa on oc], .bool false]) ∧ Below w.heap.size w w' := by
  obtain ⟨c1, c2, c5⟩ := boxes2 w #[.bool false, .slice none 0 0, .slice none 0 0] #[.bool false, .slice none 0 0, .slice none 0 0] 82 82
  have XR_0 := hid c1
  have XX_0 := hid c2
  have HB_0 := hid c5
  clear c1 c2 c5
  have hne : ((t.size : Int) == 0) = false := by rw [beq_eq_false_iff_ne]; omega
  have hs3 : (t.size : Int) ≤ 300 := by omega
  have HK := hid hK
  clear hK
  have hut : (t.extract 0 K).data.toList = t.data.toList.take K := ext_take t K
  have HUT := hid hut
  clear hut
  have hus : (t.extract 0 K).size ≤ 300 := by rw [ByteArray.size_extract]; omega
  have hdt : (t.extract (K + 1) t.size).data.toList = t.data.toList.drop (K + 1) := ext_drop t (K + 1)
  have HDT := hid hdt
  clear hdt
  have hds : (t.extract (K + 1) t.size).size ≤ 300 := by rw [ByteArray.size_extract]; omega
  go_enter Tryd.func93, Tryd.ntmps93
  go_wp2_with fail
  refine (pslash_any t _ (by omega)).mono ?_
  rintro e wz ⟨rfl, rfl⟩
  rw [HK.out]
  obtain ⟨V0, hV⟩ : ∃ V0, V0 = (w.alloc (.cells #[.bool false, .slice none 0 0, .slice none 0 0] 82)).alloc (.cells #[.bool false, .slice none 0 0, .slice none 0 0] 82) := ⟨_, rfl⟩
  rw [← hV] at XR_0 XX_0 HB_0 ⊢
  clear hV
  have ltR := XR_0.out.lt
  have cR0 := XR_0.out.cell 0 _ rfl
  have zR0 := XR_0.out.frozen 0
  have cR1 := XR_0.out.cell 1 _ rfl
  have zR1 := XR_0.out.frozen 1
  have cR2 := XR_0.out.cell 2 _ rfl
  have zR2 := XR_0.out.frozen 2
  have ltX := XX_0.out.lt
  have cX0 := XX_0.out.cell 0 _ rfl
  have zX0 := XX_0.out.frozen 0
  have cX1 := XX_0.out.cell 1 _ rfl
  have zX1 := XX_0.out.frozen 1
  have cX2 := XX_0.out.cell 2 _ rfl
  have zX2 := XX_0.out.frozen 2
  go_wp2_with fail
  refine (pdigits_any (t.extract 0 K) _ (by omega)).mono ?_
  rintro e1 wz1 ⟨rfl, rfl⟩
  rw [HUT.out, hw.out]
  go_wp2_with fail
  refine (pdigits_any (t.extract (K + 1) t.size) _ (by omega)).mono ?_
  rintro e2 wz2 ⟨rfl, rfl⟩
  rw [HDT.out, hv.out]
  go_wp2
  have P0 := XR_0.out
  have Z := (P0.put3 (.bool false) (.slice none 0 0) (.slice none 0 0))
  have z0 := Z.cell 0 _ rfl
  have z1 := Z.cell 1 _ rfl
  have z2 := Z.cell 2 _ rfl
  unfold wput3 at z0 z1 z2
  have BB := (below_put3 HB_0.out (Nat.le_refl _) (.bool false) (.slice none 0 0) (.slice none 0 0))
  exact bodyPost_ret (v := .tuple #[.agg #[.bool false, .slice none 0 0, .slice none 0 0], .bool false]) (by simp [results, Tryd.results93, go_sem, z0, z1, z2]) rfl ⟨_, _, _, _, _, _, _, rfl, BB⟩

set_option maxHeartbeats 2000000 in
set_option maxRecDepth 20000 in
theorem pread3_false (t : ByteArray) (K : Nat) (w : World) (hK : slashAt t.data.toList = K) (hts : t.size ≤ 300) (hKt : K ≤ t.size) (h0 : 0 < t.size) (hm : ((t[0].toNat : Int) == 45) = false) (hne2 : ((K : Int) == (t.size : Int)) = false) (hlt : K < t.size) (hw : Hid (wholeB (t.data.toList.take K) = true)) (hv : Hid (wholeB (t.data.toList.drop (K + 1)) = false)) :
    Calls Tryd.prog 93 #[.string t] w fun e w' => ∃ nb na nn nc oa on oc, e = .returned (.tuple #[.agg #[.bool nb, .slice na nn nc, .slice oa on oc], .bool false]) ∧ Below w.heap.size w w' := by
  obtain ⟨c1, c2, c5⟩ := boxes2 w #[.bool false, .slice none 0 0, .slice none 0 0] #[.bool false, .slice none 0 0, .slice none 0 0] 82 82
  have XR_0 := hid c1
  have XX_0 := hid c2
  have HB_0 := hid c5
  clear c1 c2 c5
  have hne : ((t.size : Int) == 0) = false := by rw [beq_eq_false_iff_ne]; omega
  have hs3 : (t.size : Int) ≤ 300 := by omega
  have HK := hid hK
  clear hK
  have hut : (t.extract 0 K).data.toList = t.data.toList.take K := ext_take t K
  have HUT := hid hut
  clear hut
  have hus : (t.extract 0 K).size ≤ 300 := by rw [ByteArray.size_extract]; omega
  have hdt : (t.extract (K + 1) t.size).data.toList = t.data.toList.drop (K + 1) := ext_drop t (K + 1)
  have HDT := hid hdt
  clear hdt
  have hds : (t.extract (K + 1) t.size).size ≤ 300 := by rw [ByteArray.size_extract]; omega
  go_enter Tryd.func93, Tryd.ntmps93
  go_wp2_with fail
  refine (pslash_any t _ (by omega)).mono ?_
  rintro e wz ⟨rfl, rfl⟩
  rw [HK.out]
  obtain ⟨V0, hV⟩ : ∃ V0, V0 = (w.alloc (.cells #[.bool false, .slice none 0 0, .slice none 0 0] 82)).alloc (.cells #[.bool false, .slice none 0 0, .slice none 0 0] 82) := ⟨_, rfl⟩
  rw [← hV] at XR_0 XX_0 HB_0 ⊢
  clear hV
  have ltR := XR_0.out.lt
  have cR0 := XR_0.out.cell 0 _ rfl
  have zR0 := XR_0.out.frozen 0
  have cR1 := XR_0.out.cell 1 _ rfl
  have zR1 := XR_0.out.frozen 1
  have cR2 := XR_0.out.cell 2 _ rfl
  have zR2 := XR_0.out.frozen 2
  have ltX := XX_0.out.lt
  have cX0 := XX_0.out.cell 0 _ rfl
  have zX0 := XX_0.out.frozen 0
  have cX1 := XX_0.out.cell 1 _ rfl
  have zX1 := XX_0.out.frozen 1
  have cX2 := XX_0.out.cell 2 _ rfl
  have zX2 := XX_0.out.frozen 2
  go_wp2_with fail
  refine (pdigits_any (t.extract 0 K) _ (by omega)).mono ?_
  rintro e1 wz1 ⟨rfl, rfl⟩
  rw [HUT.out, hw.out]
  go_wp2_with fail
  refine (pdigits_any (t.extract (K + 1) t.size) _ (by omega)).mono ?_
  rintro e2 wz2 ⟨rfl, rfl⟩
  rw [HDT.out, hv.out]
  go_wp2
  have P0 := XR_0.out
  have Z := (P0.put3 (.bool false) (.slice none 0 0) (.slice none 0 0))
  have z0 := Z.cell 0 _ rfl
  have z1 := Z.cell 1 _ rfl
  have z2 := Z.cell 2 _ rfl
  unfold wput3 at z0 z1 z2
  have BB := (below_put3 HB_0.out (Nat.le_refl _) (.bool false) (.slice none 0 0) (.slice none 0 0))
  exact bodyPost_ret (v := .tuple #[.agg #[.bool false, .slice none 0 0, .slice none 0 0], .bool false]) (by simp [results, Tryd.results93, go_sem, z0, z1, z2]) rfl ⟨_, _, _, _, _, _, _, rfl, BB⟩

set_option maxHeartbeats 2000000 in
set_option maxRecDepth 20000 in
theorem pread5_false (t : ByteArray) (K : Nat) (w : World) (hK : slashAt t.data.toList = K) (hts : t.size ≤ 300) (hKt : K ≤ t.size) (h0 : 0 < t.size) (hm : ((t[0].toNat : Int) == 45) = false) (hne2 : ((K : Int) == (t.size : Int)) = false) (hlt : K < t.size) (hw : Hid (wholeB (t.data.toList.take K) = true)) (X : Nat) (hX : Hid (dv (t.data.toList.take K) = X)) (hv : Hid (wholeB (t.data.toList.drop (K + 1)) = true)) (Y : Nat) (hY : Hid (dv (t.data.toList.drop (K + 1)) = Y)) (hX0 : Hid (X = 0)) (h48 : ¬ t.toList = [48]) (h48b : (t.toList == [48]) = false) :
    Calls Tryd.prog 93 #[.string t] w fun e w' => ∃ nb na nn nc oa on oc, e = .returned (.tuple #[.agg #[.bool nb, .slice na nn nc, .slice oa on oc], .bool false]) ∧ Below w.heap.size w w' := by
  obtain ⟨c1, c2, c5⟩ := boxes2 w #[.bool false, .slice none 0 0, .slice none 0 0] #[.bool false, .slice none 0 0, .slice none 0 0] 82 82
  have XR_0 := hid c1
  have XX_0 := hid c2
  have HB_0 := hid c5
  clear c1 c2 c5
  have hne : ((t.size : Int) == 0) = false := by rw [beq_eq_false_iff_ne]; omega
  have hs3 : (t.size : Int) ≤ 300 := by omega
  have HK := hid hK
  clear hK
  have hut : (t.extract 0 K).data.toList = t.data.toList.take K := ext_take t K
  have HUT := hid hut
  clear hut
  have hus : (t.extract 0 K).size ≤ 300 := by rw [ByteArray.size_extract]; omega
  have hdt : (t.extract (K + 1) t.size).data.toList = t.data.toList.drop (K + 1) := ext_drop t (K + 1)
  have HDT := hid hdt
  clear hdt
  have hds : (t.extract (K + 1) t.size).size ≤ 300 := by rw [ByteArray.size_extract]; omega
  go_enter Tryd.func93, Tryd.ntmps93
  go_wp2_with fail
  refine (pslash_any t _ (by omega)).mono ?_
  rintro e wz ⟨rfl, rfl⟩
  rw [HK.out]
  obtain ⟨V0, hV⟩ : ∃ V0, V0 = (w.alloc (.cells #[.bool false, .slice none 0 0, .slice none 0 0] 82)).alloc (.cells #[.bool false, .slice none 0 0, .slice none 0 0] 82) := ⟨_, rfl⟩
  rw [← hV] at XR_0 XX_0 HB_0 ⊢
  clear hV
  have ltR := XR_0.out.lt
  have cR0 := XR_0.out.cell 0 _ rfl
  have zR0 := XR_0.out.frozen 0
  have cR1 := XR_0.out.cell 1 _ rfl
  have zR1 := XR_0.out.frozen 1
  have cR2 := XR_0.out.cell 2 _ rfl
  have zR2 := XR_0.out.frozen 2
  have ltX := XX_0.out.lt
  have cX0 := XX_0.out.cell 0 _ rfl
  have zX0 := XX_0.out.frozen 0
  have cX1 := XX_0.out.cell 1 _ rfl
  have zX1 := XX_0.out.frozen 1
  have cX2 := XX_0.out.cell 2 _ rfl
  have zX2 := XX_0.out.frozen 2
  go_wp2_with fail
  refine (pdigits_any (t.extract 0 K) _ (by omega)).mono ?_
  rintro e1 wz1 ⟨rfl, rfl⟩
  rw [HUT.out, hw.out]
  go_wp2_with fail
  refine (pdigits_any (t.extract (K + 1) t.size) _ (by omega)).mono ?_
  rintro e2 wz2 ⟨rfl, rfl⟩
  rw [HDT.out, hv.out]
  go_wp2_with fail
  refine (pheard_any (t.extract 0 K) _ (by omega) (by rw [HUT.out]; exact whole_all hw.out)).mono ?_
  rintro e0 w0 ⟨v0, rfl, ⟨po, pn, pc, rfl, hr0, _⟩, hb0⟩
  have XR_1 := hid (XR_0.out.keep hb0)
  have XX_1 := hid (XX_0.out.keep hb0)
  have HB_1 : Hid (Below w.heap.size w w0) := HB_0.out.trans (hb0.mono HB_0.out.size)
  clear ltR cR0 zR0 cR1 zR1 cR2 zR2 ltX cX0 zX0 cX1 zX1 cX2 zX2
  have ltR := XR_1.out.lt
  have cR0 := XR_1.out.cell 0 _ rfl
  have zR0 := XR_1.out.frozen 0
  have cR1 := XR_1.out.cell 1 _ rfl
  have zR1 := XR_1.out.frozen 1
  have cR2 := XR_1.out.cell 2 _ rfl
  have zR2 := XR_1.out.frozen 2
  have ltX := XX_1.out.lt
  have cX0 := XX_1.out.cell 0 _ rfl
  have zX0 := XX_1.out.frozen 0
  have cX1 := XX_1.out.cell 1 _ rfl
  have zX1 := XX_1.out.frozen 1
  have cX2 := XX_1.out.cell 2 _ rfl
  have zX2 := XX_1.out.frozen 2
  rw [HUT.out, hX.out] at hr0
  have Rp_1 := hid hr0
  have lenp := hr0.len
  have bdp : pn ≤ 300 := by have h6 := limbs_dv hw.out; rw [hX.out] at h6; have h7 : (t.data.toList.take K).length ≤ K := List.length_take_le _ _; omega
  clear hb0 hr0
  go_wp2_with fail
  obtain ⟨V1, hV⟩ : ∃ V1, V1 = w0.setCell ⟨w.heap.size + 1, 1, none⟩ (.slice po pn pc) := ⟨_, rfl⟩
  rw [← hV]
  have VR_V1 := hid (XR_1.out.other ⟨w.heap.size + 1, 1, none⟩ (.slice po pn pc) (by show w.heap.size + 1 ≠ _; omega))
  have VX_V1 := hid (XX_1.out.set1 (.slice po pn pc))
  have Up_V1 := hid (Rp_1.out.other (w.heap.size + 1) 1 (.slice po pn pc) XX_1.out (by decide))
  have VBel_V1 := hid (HB_1.out.setCell (p := ⟨w.heap.size + 1, 1, none⟩) (by show w.heap.size ≤ w.heap.size + 1; omega) (.slice po pn pc))
  rw [← hV] at VR_V1 VX_V1 Up_V1 VBel_V1
  clear hV
  refine (pheard_any (t.extract (K + 1) t.size) _ (by omega) (by rw [HDT.out]; exact whole_all hv.out)).mono ?_
  rintro e1 w1 ⟨v1, rfl, ⟨qo, qn, qc, rfl, hr1, _⟩, hb1⟩
  have XR_2 := hid (VR_V1.out.keep hb1)
  have XX_2 := hid (VX_V1.out.keep hb1)
  have Rp_2 := hid (Up_V1.out.below hb1)
  have HB_2 : Hid (Below w.heap.size w w1) := VBel_V1.out.trans (hb1.mono VBel_V1.out.size)
  clear ltR cR0 zR0 cR1 zR1 cR2 zR2 ltX cX0 zX0 cX1 zX1 cX2 zX2
  have ltR := XR_2.out.lt
  have cR0 := XR_2.out.cell 0 _ rfl
  have zR0 := XR_2.out.frozen 0
  have cR1 := XR_2.out.cell 1 _ rfl
  have zR1 := XR_2.out.frozen 1
  have cR2 := XR_2.out.cell 2 _ rfl
  have zR2 := XR_2.out.frozen 2
  have ltX := XX_2.out.lt
  have cX0 := XX_2.out.cell 0 _ rfl
  have zX0 := XX_2.out.frozen 0
  have cX1 := XX_2.out.cell 1 _ rfl
  have zX1 := XX_2.out.frozen 1
  have cX2 := XX_2.out.cell 2 _ rfl
  have zX2 := XX_2.out.frozen 2
  rw [HDT.out, hY.out] at hr1
  have lenq := hr1.len
  have bdq : qn ≤ 300 := by have h6 := limbs_dv hv.out; rw [hY.out, List.length_drop] at h6; have h7 : t.data.toList.length = t.size := (by simp); omega
  have Rq_2 := hid hr1
  clear hb1 hr1
  have hpn : pn = 0 := by rw [← lenp, hX0.out]; rfl
  subst hpn
  go_wp2
  have P0 := XR_2.out.other ⟨w.heap.size + 1, 2, none⟩ (.slice qo qn qc) (by show w.heap.size + 1 ≠ _; omega)
  have Z := (P0.put3 (.bool false) (.slice po 0 pc) (.slice qo qn qc))
  have z0 := Z.cell 0 _ rfl
  have z1 := Z.cell 1 _ rfl
  have z2 := Z.cell 2 _ rfl
  unfold wput3 at z0 z1 z2
  have BB := (below_put3 (HB_2.out.setCell (p := ⟨w.heap.size + 1, 2, none⟩) (by show w.heap.size ≤ w.heap.size + 1; omega) (.slice qo qn qc)) (Nat.le_refl _) (.bool false) (.slice po 0 pc) (.slice qo qn qc))
  exact bodyPost_ret (v := .tuple #[.agg #[.bool false, .slice po 0 pc, .slice qo qn qc], .bool false]) (by simp [results, Tryd.results93, go_sem, z0, z1, z2]) rfl ⟨_, _, _, _, _, _, _, rfl, BB⟩

set_option maxHeartbeats 2000000 in
set_option maxRecDepth 20000 in
theorem pread6_false (t : ByteArray) (K : Nat) (w : World) (hK : slashAt t.data.toList = K) (hts : t.size ≤ 300) (hKt : K ≤ t.size) (h0 : 0 < t.size) (hm : ((t[0].toNat : Int) == 45) = false) (heq : ((K : Int) == (t.size : Int)) = true) (hnl : ¬ K < t.size) (hw : Hid (wholeB (t.data.toList.take K) = true)) (X : Nat) (hX : Hid (dv (t.data.toList.take K) = X)) (hX0 : Hid (X = 0)) (h48 : t.toList = [48]) (h48b : (t.toList == [48]) = true) :
    Calls Tryd.prog 93 #[.string t] w fun e w' => ∃ v, e = .returned (.tuple #[v, .bool true]) ∧ PNv w' v false X 1 ∧ Below w.heap.size w w' := by
  obtain ⟨c1, c2, c5⟩ := boxes2 w #[.bool false, .slice none 0 0, .slice none 0 0] #[.bool false, .slice none 0 0, .slice none 0 0] 82 82
  have XR_0 := hid c1
  have XX_0 := hid c2
  have HB_0 := hid c5
  clear c1 c2 c5
  have hne : ((t.size : Int) == 0) = false := by rw [beq_eq_false_iff_ne]; omega
  have hs3 : (t.size : Int) ≤ 300 := by omega
  have HK := hid hK
  clear hK
  have hut : (t.extract 0 K).data.toList = t.data.toList.take K := ext_take t K
  have HUT := hid hut
  clear hut
  have hus : (t.extract 0 K).size ≤ 300 := by rw [ByteArray.size_extract]; omega
  go_enter Tryd.func93, Tryd.ntmps93
  go_wp2_with fail
  refine (pslash_any t _ (by omega)).mono ?_
  rintro e wz ⟨rfl, rfl⟩
  rw [HK.out]
  obtain ⟨V0, hV⟩ : ∃ V0, V0 = (w.alloc (.cells #[.bool false, .slice none 0 0, .slice none 0 0] 82)).alloc (.cells #[.bool false, .slice none 0 0, .slice none 0 0] 82) := ⟨_, rfl⟩
  rw [← hV] at XR_0 XX_0 HB_0 ⊢
  clear hV
  have ltR := XR_0.out.lt
  have cR0 := XR_0.out.cell 0 _ rfl
  have zR0 := XR_0.out.frozen 0
  have cR1 := XR_0.out.cell 1 _ rfl
  have zR1 := XR_0.out.frozen 1
  have cR2 := XR_0.out.cell 2 _ rfl
  have zR2 := XR_0.out.frozen 2
  have ltX := XX_0.out.lt
  have cX0 := XX_0.out.cell 0 _ rfl
  have zX0 := XX_0.out.frozen 0
  have cX1 := XX_0.out.cell 1 _ rfl
  have zX1 := XX_0.out.frozen 1
  have cX2 := XX_0.out.cell 2 _ rfl
  have zX2 := XX_0.out.frozen 2
  go_wp2_with fail
  refine (pdigits_any (t.extract 0 K) _ (by omega)).mono ?_
  rintro e1 wz1 ⟨rfl, rfl⟩
  rw [HUT.out, hw.out]
  go_wp2_with fail
  refine (pdigits_any ⟨#[49]⟩ _ (by decide)).mono ?_
  rintro e2 wz2 ⟨rfl, rfl⟩
  rw [bytes49, whole49]
  go_wp2_with fail
  refine (pheard_any (t.extract 0 K) _ (by omega) (by rw [HUT.out]; exact whole_all hw.out)).mono ?_
  rintro e0 w0 ⟨v0, rfl, ⟨po, pn, pc, rfl, hr0, _⟩, hb0⟩
  have XR_1 := hid (XR_0.out.keep hb0)
  have XX_1 := hid (XX_0.out.keep hb0)
  have HB_1 : Hid (Below w.heap.size w w0) := HB_0.out.trans (hb0.mono HB_0.out.size)
  clear ltR cR0 zR0 cR1 zR1 cR2 zR2 ltX cX0 zX0 cX1 zX1 cX2 zX2
  have ltR := XR_1.out.lt
  have cR0 := XR_1.out.cell 0 _ rfl
  have zR0 := XR_1.out.frozen 0
  have cR1 := XR_1.out.cell 1 _ rfl
  have zR1 := XR_1.out.frozen 1
  have cR2 := XR_1.out.cell 2 _ rfl
  have zR2 := XR_1.out.frozen 2
  have ltX := XX_1.out.lt
  have cX0 := XX_1.out.cell 0 _ rfl
  have zX0 := XX_1.out.frozen 0
  have cX1 := XX_1.out.cell 1 _ rfl
  have zX1 := XX_1.out.frozen 1
  have cX2 := XX_1.out.cell 2 _ rfl
  have zX2 := XX_1.out.frozen 2
  rw [HUT.out, hX.out] at hr0
  have Rp_1 := hid hr0
  have lenp := hr0.len
  have bdp : pn ≤ 300 := by have h6 := limbs_dv hw.out; rw [hX.out] at h6; have h7 : (t.data.toList.take K).length ≤ K := List.length_take_le _ _; omega
  clear hb0 hr0
  go_wp2_with fail
  obtain ⟨V1, hV⟩ : ∃ V1, V1 = w0.setCell ⟨w.heap.size + 1, 1, none⟩ (.slice po pn pc) := ⟨_, rfl⟩
  rw [← hV]
  have VR_V1 := hid (XR_1.out.other ⟨w.heap.size + 1, 1, none⟩ (.slice po pn pc) (by show w.heap.size + 1 ≠ _; omega))
  have VX_V1 := hid (XX_1.out.set1 (.slice po pn pc))
  have Up_V1 := hid (Rp_1.out.other (w.heap.size + 1) 1 (.slice po pn pc) XX_1.out (by decide))
  have VBel_V1 := hid (HB_1.out.setCell (p := ⟨w.heap.size + 1, 1, none⟩) (by show w.heap.size ≤ w.heap.size + 1; omega) (.slice po pn pc))
  rw [← hV] at VR_V1 VX_V1 Up_V1 VBel_V1
  clear hV
  refine (pheard_any ⟨#[49]⟩ _ (by decide) (by rw [bytes49]; exact whole_all whole49)).mono ?_
  rintro e1 w1 ⟨v1, rfl, ⟨qo, qn, qc, rfl, hr1, _⟩, hb1⟩
  have XR_2 := hid (VR_V1.out.keep hb1)
  have XX_2 := hid (VX_V1.out.keep hb1)
  have Rp_2 := hid (Up_V1.out.below hb1)
  have HB_2 : Hid (Below w.heap.size w w1) := VBel_V1.out.trans (hb1.mono VBel_V1.out.size)
  clear ltR cR0 zR0 cR1 zR1 cR2 zR2 ltX cX0 zX0 cX1 zX1 cX2 zX2
  have ltR := XR_2.out.lt
  have cR0 := XR_2.out.cell 0 _ rfl
  have zR0 := XR_2.out.frozen 0
  have cR1 := XR_2.out.cell 1 _ rfl
  have zR1 := XR_2.out.frozen 1
  have cR2 := XR_2.out.cell 2 _ rfl
  have zR2 := XR_2.out.frozen 2
  have ltX := XX_2.out.lt
  have cX0 := XX_2.out.cell 0 _ rfl
  have zX0 := XX_2.out.frozen 0
  have cX1 := XX_2.out.cell 1 _ rfl
  have zX1 := XX_2.out.frozen 1
  have cX2 := XX_2.out.cell 2 _ rfl
  have zX2 := XX_2.out.frozen 2
  rw [bytes49, dv49] at hr1
  have Rq_2 := hid hr1
  clear hb1 hr1
  have hpn : pn = 0 := by rw [← lenp, hX0.out]; rfl
  subst hpn
  go_wp2
  have P0 := XR_2.out.other ⟨w.heap.size + 1, 2, none⟩ (.slice qo qn qc) (by show w.heap.size + 1 ≠ _; omega)
  have Z := (P0.put3 (.bool false) (.slice po 0 pc) (.slice qo qn qc))
  have z0 := Z.cell 0 _ rfl
  have z1 := Z.cell 1 _ rfl
  have z2 := Z.cell 2 _ rfl
  unfold wput3 at z0 z1 z2
  have BB := (below_put3 (HB_2.out.setCell (p := ⟨w.heap.size + 1, 2, none⟩) (by show w.heap.size ≤ w.heap.size + 1; omega) (.slice qo qn qc)) (Nat.le_refl _) (.bool false) (.slice po 0 pc) (.slice qo qn qc))
  refine bodyPost_ret (v := .tuple #[.agg #[.bool false, .slice po 0 pc, .slice qo qn qc], .bool true]) (by simp [results, Tryd.results93, go_sem, z0, z1, z2]) rfl ⟨_, rfl, ⟨po, 0, pc, qo, qn, qc, rfl, ?_, ?_⟩, BB⟩
  · exact ((Rp_2.out.other _ _ _ XX_2.out (by decide)).put3 P0 (by decide) (.bool false) (.slice po 0 pc) (.slice qo qn qc))
  · exact ((Rq_2.out.other _ _ _ XX_2.out (by decide)).put3 P0 (by decide) (.bool false) (.slice po 0 pc) (.slice qo qn qc))

set_option maxHeartbeats 2000000 in
set_option maxRecDepth 20000 in
theorem pread7_false (t : ByteArray) (K : Nat) (w : World) (hK : slashAt t.data.toList = K) (hts : t.size ≤ 300) (hKt : K ≤ t.size) (h0 : 0 < t.size) (hm : ((t[0].toNat : Int) == 45) = false) (heq : ((K : Int) == (t.size : Int)) = true) (hnl : ¬ K < t.size) (hw : Hid (wholeB (t.data.toList.take K) = true)) (X : Nat) (hX : Hid (dv (t.data.toList.take K) = X)) (hX0 : Hid (X ≠ 0)) :
    Calls Tryd.prog 93 #[.string t] w fun e w' => ∃ v, e = .returned (.tuple #[v, .bool true]) ∧ PNv w' v false X 1 ∧ Below w.heap.size w w' := by
  obtain ⟨c1, c2, c5⟩ := boxes2 w #[.bool false, .slice none 0 0, .slice none 0 0] #[.bool false, .slice none 0 0, .slice none 0 0] 82 82
  have XR_0 := hid c1
  have XX_0 := hid c2
  have HB_0 := hid c5
  clear c1 c2 c5
  have hne : ((t.size : Int) == 0) = false := by rw [beq_eq_false_iff_ne]; omega
  have hs3 : (t.size : Int) ≤ 300 := by omega
  have HK := hid hK
  clear hK
  have hut : (t.extract 0 K).data.toList = t.data.toList.take K := ext_take t K
  have HUT := hid hut
  clear hut
  have hus : (t.extract 0 K).size ≤ 300 := by rw [ByteArray.size_extract]; omega
  go_enter Tryd.func93, Tryd.ntmps93
  go_wp2_with fail
  refine (pslash_any t _ (by omega)).mono ?_
  rintro e wz ⟨rfl, rfl⟩
  rw [HK.out]
  obtain ⟨V0, hV⟩ : ∃ V0, V0 = (w.alloc (.cells #[.bool false, .slice none 0 0, .slice none 0 0] 82)).alloc (.cells #[.bool false, .slice none 0 0, .slice none 0 0] 82) := ⟨_, rfl⟩
  rw [← hV] at XR_0 XX_0 HB_0 ⊢
  clear hV
  have ltR := XR_0.out.lt
  have cR0 := XR_0.out.cell 0 _ rfl
  have zR0 := XR_0.out.frozen 0
  have cR1 := XR_0.out.cell 1 _ rfl
  have zR1 := XR_0.out.frozen 1
  have cR2 := XR_0.out.cell 2 _ rfl
  have zR2 := XR_0.out.frozen 2
  have ltX := XX_0.out.lt
  have cX0 := XX_0.out.cell 0 _ rfl
  have zX0 := XX_0.out.frozen 0
  have cX1 := XX_0.out.cell 1 _ rfl
  have zX1 := XX_0.out.frozen 1
  have cX2 := XX_0.out.cell 2 _ rfl
  have zX2 := XX_0.out.frozen 2
  go_wp2_with fail
  refine (pdigits_any (t.extract 0 K) _ (by omega)).mono ?_
  rintro e1 wz1 ⟨rfl, rfl⟩
  rw [HUT.out, hw.out]
  go_wp2_with fail
  refine (pdigits_any ⟨#[49]⟩ _ (by decide)).mono ?_
  rintro e2 wz2 ⟨rfl, rfl⟩
  rw [bytes49, whole49]
  go_wp2_with fail
  refine (pheard_any (t.extract 0 K) _ (by omega) (by rw [HUT.out]; exact whole_all hw.out)).mono ?_
  rintro e0 w0 ⟨v0, rfl, ⟨po, pn, pc, rfl, hr0, _⟩, hb0⟩
  have XR_1 := hid (XR_0.out.keep hb0)
  have XX_1 := hid (XX_0.out.keep hb0)
  have HB_1 : Hid (Below w.heap.size w w0) := HB_0.out.trans (hb0.mono HB_0.out.size)
  clear ltR cR0 zR0 cR1 zR1 cR2 zR2 ltX cX0 zX0 cX1 zX1 cX2 zX2
  have ltR := XR_1.out.lt
  have cR0 := XR_1.out.cell 0 _ rfl
  have zR0 := XR_1.out.frozen 0
  have cR1 := XR_1.out.cell 1 _ rfl
  have zR1 := XR_1.out.frozen 1
  have cR2 := XR_1.out.cell 2 _ rfl
  have zR2 := XR_1.out.frozen 2
  have ltX := XX_1.out.lt
  have cX0 := XX_1.out.cell 0 _ rfl
  have zX0 := XX_1.out.frozen 0
  have cX1 := XX_1.out.cell 1 _ rfl
  have zX1 := XX_1.out.frozen 1
  have cX2 := XX_1.out.cell 2 _ rfl
  have zX2 := XX_1.out.frozen 2
  rw [HUT.out, hX.out] at hr0
  have Rp_1 := hid hr0
  have lenp := hr0.len
  have bdp : pn ≤ 300 := by have h6 := limbs_dv hw.out; rw [hX.out] at h6; have h7 : (t.data.toList.take K).length ≤ K := List.length_take_le _ _; omega
  clear hb0 hr0
  go_wp2_with fail
  obtain ⟨V1, hV⟩ : ∃ V1, V1 = w0.setCell ⟨w.heap.size + 1, 1, none⟩ (.slice po pn pc) := ⟨_, rfl⟩
  rw [← hV]
  have VR_V1 := hid (XR_1.out.other ⟨w.heap.size + 1, 1, none⟩ (.slice po pn pc) (by show w.heap.size + 1 ≠ _; omega))
  have VX_V1 := hid (XX_1.out.set1 (.slice po pn pc))
  have Up_V1 := hid (Rp_1.out.other (w.heap.size + 1) 1 (.slice po pn pc) XX_1.out (by decide))
  have VBel_V1 := hid (HB_1.out.setCell (p := ⟨w.heap.size + 1, 1, none⟩) (by show w.heap.size ≤ w.heap.size + 1; omega) (.slice po pn pc))
  rw [← hV] at VR_V1 VX_V1 Up_V1 VBel_V1
  clear hV
  refine (pheard_any ⟨#[49]⟩ _ (by decide) (by rw [bytes49]; exact whole_all whole49)).mono ?_
  rintro e1 w1 ⟨v1, rfl, ⟨qo, qn, qc, rfl, hr1, _⟩, hb1⟩
  have XR_2 := hid (VR_V1.out.keep hb1)
  have XX_2 := hid (VX_V1.out.keep hb1)
  have Rp_2 := hid (Up_V1.out.below hb1)
  have HB_2 : Hid (Below w.heap.size w w1) := VBel_V1.out.trans (hb1.mono VBel_V1.out.size)
  clear ltR cR0 zR0 cR1 zR1 cR2 zR2 ltX cX0 zX0 cX1 zX1 cX2 zX2
  have ltR := XR_2.out.lt
  have cR0 := XR_2.out.cell 0 _ rfl
  have zR0 := XR_2.out.frozen 0
  have cR1 := XR_2.out.cell 1 _ rfl
  have zR1 := XR_2.out.frozen 1
  have cR2 := XR_2.out.cell 2 _ rfl
  have zR2 := XR_2.out.frozen 2
  have ltX := XX_2.out.lt
  have cX0 := XX_2.out.cell 0 _ rfl
  have zX0 := XX_2.out.frozen 0
  have cX1 := XX_2.out.cell 1 _ rfl
  have zX1 := XX_2.out.frozen 1
  have cX2 := XX_2.out.cell 2 _ rfl
  have zX2 := XX_2.out.frozen 2
  rw [bytes49, dv49] at hr1
  have Rq_2 := hid hr1
  clear hb1 hr1
  have hpn : ((pn : Int) == 0) = false := by
    rw [beq_eq_false_iff_ne]; have h2 := List.length_pos_iff.2 (limbs_ne_nil hX0.out); omega
  go_wp2
  have P0 := XR_2.out.other ⟨w.heap.size + 1, 2, none⟩ (.slice qo qn qc) (by show w.heap.size + 1 ≠ _; omega)
  have Z := (P0.put3 (.bool false) (.slice po pn pc) (.slice qo qn qc))
  have z0 := Z.cell 0 _ rfl
  have z1 := Z.cell 1 _ rfl
  have z2 := Z.cell 2 _ rfl
  unfold wput3 at z0 z1 z2
  have BB := (below_put3 (HB_2.out.setCell (p := ⟨w.heap.size + 1, 2, none⟩) (by show w.heap.size ≤ w.heap.size + 1; omega) (.slice qo qn qc)) (Nat.le_refl _) (.bool false) (.slice po pn pc) (.slice qo qn qc))
  refine bodyPost_ret (v := .tuple #[.agg #[.bool false, .slice po pn pc, .slice qo qn qc], .bool true]) (by simp [results, Tryd.results93, go_sem, z0, z1, z2]) rfl ⟨_, rfl, ⟨po, pn, pc, qo, qn, qc, rfl, ?_, ?_⟩, BB⟩
  · exact ((Rp_2.out.other _ _ _ XX_2.out (by decide)).put3 P0 (by decide) (.bool false) (.slice po pn pc) (.slice qo qn qc))
  · exact ((Rq_2.out.other _ _ _ XX_2.out (by decide)).put3 P0 (by decide) (.bool false) (.slice po pn pc) (.slice qo qn qc))

end Go.Proofs.YtigokanoflkinaaDoor

/- portionref.Read, of texts with no minus: the others. (Laid by mkrefr.py.) -/
namespace Go.Proofs.YtigokanoflkinaaDoor
set_option linter.unusedSimpArgs false
set_option linter.unusedVariables false
open Go.RowKit Por

set_option maxHeartbeats 2000000 in
set_option maxRecDepth 20000 in
theorem pread8_false (t : ByteArray) (K : Nat) (w : World) (hK : slashAt t.data.toList = K) (hts : t.size ≤ 300) (hKt : K ≤ t.size) (h0 : 0 < t.size) (hm : ((t[0].toNat : Int) == 45) = false) (hne2 : ((K : Int) == (t.size : Int)) = false) (hlt : K < t.size) (hw : Hid (wholeB (t.data.toList.take K) = true)) (X : Nat) (hX : Hid (dv (t.data.toList.take K) = X)) (hv : Hid (wholeB (t.data.toList.drop (K + 1)) = true)) (Y : Nat) (hY : Hid (dv (t.data.toList.drop (K + 1)) = Y)) (hX0 : Hid (X ≠ 0)) (hd0 : (t.extract (K + 1) t.size).toList = [48]) (hd0b : ((t.extract (K + 1) t.size).toList == [48]) = true) :
    Calls Tryd.prog 93 #[.string t] w fun e w' => ∃ nb na nn nc oa on oc, e = .returned (.tuple #[.agg #[.bool nb, .slice na nn nc, .slice oa on oc], .bool false]) ∧ Below w.heap.size w w' := by
  obtain ⟨c1, c2, c5⟩ := boxes2 w #[.bool false, .slice none 0 0, .slice none 0 0] #[.bool false, .slice none 0 0, .slice none 0 0] 82 82
  have XR_0 := hid c1
  have XX_0 := hid c2
  have HB_0 := hid c5
  clear c1 c2 c5
  have hne : ((t.size : Int) == 0) = false := by rw [beq_eq_false_iff_ne]; omega
  have hs3 : (t.size : Int) ≤ 300 := by omega
  have HK := hid hK
  clear hK
  have hut : (t.extract 0 K).data.toList = t.data.toList.take K := ext_take t K
  have HUT := hid hut
  clear hut
  have hus : (t.extract 0 K).size ≤ 300 := by rw [ByteArray.size_extract]; omega
  have hdt : (t.extract (K + 1) t.size).data.toList = t.data.toList.drop (K + 1) := ext_drop t (K + 1)
  have HDT := hid hdt
  clear hdt
  have hds : (t.extract (K + 1) t.size).size ≤ 300 := by rw [ByteArray.size_extract]; omega
  go_enter Tryd.func93, Tryd.ntmps93
  go_wp2_with fail
  refine (pslash_any t _ (by omega)).mono ?_
  rintro e wz ⟨rfl, rfl⟩
  rw [HK.out]
  obtain ⟨V0, hV⟩ : ∃ V0, V0 = (w.alloc (.cells #[.bool false, .slice none 0 0, .slice none 0 0] 82)).alloc (.cells #[.bool false, .slice none 0 0, .slice none 0 0] 82) := ⟨_, rfl⟩
  rw [← hV] at XR_0 XX_0 HB_0 ⊢
  clear hV
  have ltR := XR_0.out.lt
  have cR0 := XR_0.out.cell 0 _ rfl
  have zR0 := XR_0.out.frozen 0
  have cR1 := XR_0.out.cell 1 _ rfl
  have zR1 := XR_0.out.frozen 1
  have cR2 := XR_0.out.cell 2 _ rfl
  have zR2 := XR_0.out.frozen 2
  have ltX := XX_0.out.lt
  have cX0 := XX_0.out.cell 0 _ rfl
  have zX0 := XX_0.out.frozen 0
  have cX1 := XX_0.out.cell 1 _ rfl
  have zX1 := XX_0.out.frozen 1
  have cX2 := XX_0.out.cell 2 _ rfl
  have zX2 := XX_0.out.frozen 2
  go_wp2_with fail
  refine (pdigits_any (t.extract 0 K) _ (by omega)).mono ?_
  rintro e1 wz1 ⟨rfl, rfl⟩
  rw [HUT.out, hw.out]
  go_wp2_with fail
  refine (pdigits_any (t.extract (K + 1) t.size) _ (by omega)).mono ?_
  rintro e2 wz2 ⟨rfl, rfl⟩
  rw [HDT.out, hv.out]
  go_wp2_with fail
  refine (pheard_any (t.extract 0 K) _ (by omega) (by rw [HUT.out]; exact whole_all hw.out)).mono ?_
  rintro e0 w0 ⟨v0, rfl, ⟨po, pn, pc, rfl, hr0, _⟩, hb0⟩
  have XR_1 := hid (XR_0.out.keep hb0)
  have XX_1 := hid (XX_0.out.keep hb0)
  have HB_1 : Hid (Below w.heap.size w w0) := HB_0.out.trans (hb0.mono HB_0.out.size)
  clear ltR cR0 zR0 cR1 zR1 cR2 zR2 ltX cX0 zX0 cX1 zX1 cX2 zX2
  have ltR := XR_1.out.lt
  have cR0 := XR_1.out.cell 0 _ rfl
  have zR0 := XR_1.out.frozen 0
  have cR1 := XR_1.out.cell 1 _ rfl
  have zR1 := XR_1.out.frozen 1
  have cR2 := XR_1.out.cell 2 _ rfl
  have zR2 := XR_1.out.frozen 2
  have ltX := XX_1.out.lt
  have cX0 := XX_1.out.cell 0 _ rfl
  have zX0 := XX_1.out.frozen 0
  have cX1 := XX_1.out.cell 1 _ rfl
  have zX1 := XX_1.out.frozen 1
  have cX2 := XX_1.out.cell 2 _ rfl
  have zX2 := XX_1.out.frozen 2
  rw [HUT.out, hX.out] at hr0
  have Rp_1 := hid hr0
  have lenp := hr0.len
  have bdp : pn ≤ 300 := by have h6 := limbs_dv hw.out; rw [hX.out] at h6; have h7 : (t.data.toList.take K).length ≤ K := List.length_take_le _ _; omega
  clear hb0 hr0
  go_wp2_with fail
  obtain ⟨V1, hV⟩ : ∃ V1, V1 = w0.setCell ⟨w.heap.size + 1, 1, none⟩ (.slice po pn pc) := ⟨_, rfl⟩
  rw [← hV]
  have VR_V1 := hid (XR_1.out.other ⟨w.heap.size + 1, 1, none⟩ (.slice po pn pc) (by show w.heap.size + 1 ≠ _; omega))
  have VX_V1 := hid (XX_1.out.set1 (.slice po pn pc))
  have Up_V1 := hid (Rp_1.out.other (w.heap.size + 1) 1 (.slice po pn pc) XX_1.out (by decide))
  have VBel_V1 := hid (HB_1.out.setCell (p := ⟨w.heap.size + 1, 1, none⟩) (by show w.heap.size ≤ w.heap.size + 1; omega) (.slice po pn pc))
  rw [← hV] at VR_V1 VX_V1 Up_V1 VBel_V1
  clear hV
  refine (pheard_any (t.extract (K + 1) t.size) _ (by omega) (by rw [HDT.out]; exact whole_all hv.out)).mono ?_
  rintro e1 w1 ⟨v1, rfl, ⟨qo, qn, qc, rfl, hr1, _⟩, hb1⟩
  have XR_2 := hid (VR_V1.out.keep hb1)
  have XX_2 := hid (VX_V1.out.keep hb1)
  have Rp_2 := hid (Up_V1.out.below hb1)
  have HB_2 : Hid (Below w.heap.size w w1) := VBel_V1.out.trans (hb1.mono VBel_V1.out.size)
  clear ltR cR0 zR0 cR1 zR1 cR2 zR2 ltX cX0 zX0 cX1 zX1 cX2 zX2
  have ltR := XR_2.out.lt
  have cR0 := XR_2.out.cell 0 _ rfl
  have zR0 := XR_2.out.frozen 0
  have cR1 := XR_2.out.cell 1 _ rfl
  have zR1 := XR_2.out.frozen 1
  have cR2 := XR_2.out.cell 2 _ rfl
  have zR2 := XR_2.out.frozen 2
  have ltX := XX_2.out.lt
  have cX0 := XX_2.out.cell 0 _ rfl
  have zX0 := XX_2.out.frozen 0
  have cX1 := XX_2.out.cell 1 _ rfl
  have zX1 := XX_2.out.frozen 1
  have cX2 := XX_2.out.cell 2 _ rfl
  have zX2 := XX_2.out.frozen 2
  rw [HDT.out, hY.out] at hr1
  have lenq := hr1.len
  have bdq : qn ≤ 300 := by have h6 := limbs_dv hv.out; rw [hY.out, List.length_drop] at h6; have h7 : t.data.toList.length = t.size := (by simp); omega
  have Rq_2 := hid hr1
  clear hb1 hr1
  have hpn : ((pn : Int) == 0) = false := by
    rw [beq_eq_false_iff_ne]; have h2 := List.length_pos_iff.2 (limbs_ne_nil hX0.out); omega
  go_wp2
  have P0 := XR_2.out.other ⟨w.heap.size + 1, 2, none⟩ (.slice qo qn qc) (by show w.heap.size + 1 ≠ _; omega)
  have Z := (P0.put3 (.bool false) (.slice po pn pc) (.slice qo qn qc))
  have z0 := Z.cell 0 _ rfl
  have z1 := Z.cell 1 _ rfl
  have z2 := Z.cell 2 _ rfl
  unfold wput3 at z0 z1 z2
  have BB := (below_put3 (HB_2.out.setCell (p := ⟨w.heap.size + 1, 2, none⟩) (by show w.heap.size ≤ w.heap.size + 1; omega) (.slice qo qn qc)) (Nat.le_refl _) (.bool false) (.slice po pn pc) (.slice qo qn qc))
  exact bodyPost_ret (v := .tuple #[.agg #[.bool false, .slice po pn pc, .slice qo qn qc], .bool false]) (by simp [results, Tryd.results93, go_sem, z0, z1, z2]) rfl ⟨_, _, _, _, _, _, _, rfl, BB⟩

set_option maxHeartbeats 2000000 in
set_option maxRecDepth 20000 in
theorem pread9_false (t : ByteArray) (K : Nat) (w : World) (hK : slashAt t.data.toList = K) (hts : t.size ≤ 300) (hKt : K ≤ t.size) (h0 : 0 < t.size) (hm : ((t[0].toNat : Int) == 45) = false) (hne2 : ((K : Int) == (t.size : Int)) = false) (hlt : K < t.size) (hw : Hid (wholeB (t.data.toList.take K) = true)) (X : Nat) (hX : Hid (dv (t.data.toList.take K) = X)) (hv : Hid (wholeB (t.data.toList.drop (K + 1)) = true)) (Y : Nat) (hY : Hid (dv (t.data.toList.drop (K + 1)) = Y)) (hX0 : Hid (X ≠ 0)) (hd0 : ¬ (t.extract (K + 1) t.size).toList = [48]) (hd0b : ((t.extract (K + 1) t.size).toList == [48]) = false) (hd1 : (t.extract (K + 1) t.size).toList = [49]) (hd1b : ((t.extract (K + 1) t.size).toList == [49]) = true) :
    Calls Tryd.prog 93 #[.string t] w fun e w' => ∃ nb na nn nc oa on oc, e = .returned (.tuple #[.agg #[.bool nb, .slice na nn nc, .slice oa on oc], .bool false]) ∧ Below w.heap.size w w' := by
  obtain ⟨c1, c2, c5⟩ := boxes2 w #[.bool false, .slice none 0 0, .slice none 0 0] #[.bool false, .slice none 0 0, .slice none 0 0] 82 82
  have XR_0 := hid c1
  have XX_0 := hid c2
  have HB_0 := hid c5
  clear c1 c2 c5
  have hne : ((t.size : Int) == 0) = false := by rw [beq_eq_false_iff_ne]; omega
  have hs3 : (t.size : Int) ≤ 300 := by omega
  have HK := hid hK
  clear hK
  have hut : (t.extract 0 K).data.toList = t.data.toList.take K := ext_take t K
  have HUT := hid hut
  clear hut
  have hus : (t.extract 0 K).size ≤ 300 := by rw [ByteArray.size_extract]; omega
  have hdt : (t.extract (K + 1) t.size).data.toList = t.data.toList.drop (K + 1) := ext_drop t (K + 1)
  have HDT := hid hdt
  clear hdt
  have hds : (t.extract (K + 1) t.size).size ≤ 300 := by rw [ByteArray.size_extract]; omega
  go_enter Tryd.func93, Tryd.ntmps93
  go_wp2_with fail
  refine (pslash_any t _ (by omega)).mono ?_
  rintro e wz ⟨rfl, rfl⟩
  rw [HK.out]
  obtain ⟨V0, hV⟩ : ∃ V0, V0 = (w.alloc (.cells #[.bool false, .slice none 0 0, .slice none 0 0] 82)).alloc (.cells #[.bool false, .slice none 0 0, .slice none 0 0] 82) := ⟨_, rfl⟩
  rw [← hV] at XR_0 XX_0 HB_0 ⊢
  clear hV
  have ltR := XR_0.out.lt
  have cR0 := XR_0.out.cell 0 _ rfl
  have zR0 := XR_0.out.frozen 0
  have cR1 := XR_0.out.cell 1 _ rfl
  have zR1 := XR_0.out.frozen 1
  have cR2 := XR_0.out.cell 2 _ rfl
  have zR2 := XR_0.out.frozen 2
  have ltX := XX_0.out.lt
  have cX0 := XX_0.out.cell 0 _ rfl
  have zX0 := XX_0.out.frozen 0
  have cX1 := XX_0.out.cell 1 _ rfl
  have zX1 := XX_0.out.frozen 1
  have cX2 := XX_0.out.cell 2 _ rfl
  have zX2 := XX_0.out.frozen 2
  go_wp2_with fail
  refine (pdigits_any (t.extract 0 K) _ (by omega)).mono ?_
  rintro e1 wz1 ⟨rfl, rfl⟩
  rw [HUT.out, hw.out]
  go_wp2_with fail
  refine (pdigits_any (t.extract (K + 1) t.size) _ (by omega)).mono ?_
  rintro e2 wz2 ⟨rfl, rfl⟩
  rw [HDT.out, hv.out]
  go_wp2_with fail
  refine (pheard_any (t.extract 0 K) _ (by omega) (by rw [HUT.out]; exact whole_all hw.out)).mono ?_
  rintro e0 w0 ⟨v0, rfl, ⟨po, pn, pc, rfl, hr0, _⟩, hb0⟩
  have XR_1 := hid (XR_0.out.keep hb0)
  have XX_1 := hid (XX_0.out.keep hb0)
  have HB_1 : Hid (Below w.heap.size w w0) := HB_0.out.trans (hb0.mono HB_0.out.size)
  clear ltR cR0 zR0 cR1 zR1 cR2 zR2 ltX cX0 zX0 cX1 zX1 cX2 zX2
  have ltR := XR_1.out.lt
  have cR0 := XR_1.out.cell 0 _ rfl
  have zR0 := XR_1.out.frozen 0
  have cR1 := XR_1.out.cell 1 _ rfl
  have zR1 := XR_1.out.frozen 1
  have cR2 := XR_1.out.cell 2 _ rfl
  have zR2 := XR_1.out.frozen 2
  have ltX := XX_1.out.lt
  have cX0 := XX_1.out.cell 0 _ rfl
  have zX0 := XX_1.out.frozen 0
  have cX1 := XX_1.out.cell 1 _ rfl
  have zX1 := XX_1.out.frozen 1
  have cX2 := XX_1.out.cell 2 _ rfl
  have zX2 := XX_1.out.frozen 2
  rw [HUT.out, hX.out] at hr0
  have Rp_1 := hid hr0
  have lenp := hr0.len
  have bdp : pn ≤ 300 := by have h6 := limbs_dv hw.out; rw [hX.out] at h6; have h7 : (t.data.toList.take K).length ≤ K := List.length_take_le _ _; omega
  clear hb0 hr0
  go_wp2_with fail
  obtain ⟨V1, hV⟩ : ∃ V1, V1 = w0.setCell ⟨w.heap.size + 1, 1, none⟩ (.slice po pn pc) := ⟨_, rfl⟩
  rw [← hV]
  have VR_V1 := hid (XR_1.out.other ⟨w.heap.size + 1, 1, none⟩ (.slice po pn pc) (by show w.heap.size + 1 ≠ _; omega))
  have VX_V1 := hid (XX_1.out.set1 (.slice po pn pc))
  have Up_V1 := hid (Rp_1.out.other (w.heap.size + 1) 1 (.slice po pn pc) XX_1.out (by decide))
  have VBel_V1 := hid (HB_1.out.setCell (p := ⟨w.heap.size + 1, 1, none⟩) (by show w.heap.size ≤ w.heap.size + 1; omega) (.slice po pn pc))
  rw [← hV] at VR_V1 VX_V1 Up_V1 VBel_V1
  clear hV
  refine (pheard_any (t.extract (K + 1) t.size) _ (by omega) (by rw [HDT.out]; exact whole_all hv.out)).mono ?_
  rintro e1 w1 ⟨v1, rfl, ⟨qo, qn, qc, rfl, hr1, _⟩, hb1⟩
  have XR_2 := hid (VR_V1.out.keep hb1)
  have XX_2 := hid (VX_V1.out.keep hb1)
  have Rp_2 := hid (Up_V1.out.below hb1)
  have HB_2 : Hid (Below w.heap.size w w1) := VBel_V1.out.trans (hb1.mono VBel_V1.out.size)
  clear ltR cR0 zR0 cR1 zR1 cR2 zR2 ltX cX0 zX0 cX1 zX1 cX2 zX2
  have ltR := XR_2.out.lt
  have cR0 := XR_2.out.cell 0 _ rfl
  have zR0 := XR_2.out.frozen 0
  have cR1 := XR_2.out.cell 1 _ rfl
  have zR1 := XR_2.out.frozen 1
  have cR2 := XR_2.out.cell 2 _ rfl
  have zR2 := XR_2.out.frozen 2
  have ltX := XX_2.out.lt
  have cX0 := XX_2.out.cell 0 _ rfl
  have zX0 := XX_2.out.frozen 0
  have cX1 := XX_2.out.cell 1 _ rfl
  have zX1 := XX_2.out.frozen 1
  have cX2 := XX_2.out.cell 2 _ rfl
  have zX2 := XX_2.out.frozen 2
  rw [HDT.out, hY.out] at hr1
  have lenq := hr1.len
  have bdq : qn ≤ 300 := by have h6 := limbs_dv hv.out; rw [hY.out, List.length_drop] at h6; have h7 : t.data.toList.length = t.size := (by simp); omega
  have Rq_2 := hid hr1
  clear hb1 hr1
  have hpn : ((pn : Int) == 0) = false := by
    rw [beq_eq_false_iff_ne]; have h2 := List.length_pos_iff.2 (limbs_ne_nil hX0.out); omega
  go_wp2
  have P0 := XR_2.out.other ⟨w.heap.size + 1, 2, none⟩ (.slice qo qn qc) (by show w.heap.size + 1 ≠ _; omega)
  have Z := (P0.put3 (.bool false) (.slice po pn pc) (.slice qo qn qc))
  have z0 := Z.cell 0 _ rfl
  have z1 := Z.cell 1 _ rfl
  have z2 := Z.cell 2 _ rfl
  unfold wput3 at z0 z1 z2
  have BB := (below_put3 (HB_2.out.setCell (p := ⟨w.heap.size + 1, 2, none⟩) (by show w.heap.size ≤ w.heap.size + 1; omega) (.slice qo qn qc)) (Nat.le_refl _) (.bool false) (.slice po pn pc) (.slice qo qn qc))
  exact bodyPost_ret (v := .tuple #[.agg #[.bool false, .slice po pn pc, .slice qo qn qc], .bool false]) (by simp [results, Tryd.results93, go_sem, z0, z1, z2]) rfl ⟨_, _, _, _, _, _, _, rfl, BB⟩

set_option maxHeartbeats 2000000 in
set_option maxRecDepth 20000 in
theorem pread_one_false (t : ByteArray) (K : Nat) (w : World) (hK : slashAt t.data.toList = K) (hts : t.size ≤ 300) (hKt : K ≤ t.size) (h0 : 0 < t.size) (hm : ((t[0].toNat : Int) == 45) = false) (hne2 : ((K : Int) == (t.size : Int)) = false) (hlt : K < t.size) (hw : Hid (wholeB (t.data.toList.take K) = true)) (X : Nat) (hX : Hid (dv (t.data.toList.take K) = X)) (hv : Hid (wholeB (t.data.toList.drop (K + 1)) = true)) (Y : Nat) (hY : Hid (dv (t.data.toList.drop (K + 1)) = Y)) (hd0 : ¬ (t.extract (K + 1) t.size).toList = [48]) (hd0b : ((t.extract (K + 1) t.size).toList == [48]) = false) (hd1 : ¬ (t.extract (K + 1) t.size).toList = [49]) (hd1b : ((t.extract (K + 1) t.size).toList == [49]) = false) (hX0 : Hid (X ≠ 0)) (hY0 : Hid (Y ≠ 0)) (hone : Hid (Nat.gcd X Y = 1)) :
    Calls Tryd.prog 93 #[.string t] w fun e w' => ∃ v, e = .returned (.tuple #[v, .bool true]) ∧ PNv w' v false X Y ∧ Below w.heap.size w w' := by
  obtain ⟨c1, c2, c5⟩ := boxes2 w #[.bool false, .slice none 0 0, .slice none 0 0] #[.bool false, .slice none 0 0, .slice none 0 0] 82 82
  have XR_0 := hid c1
  have XX_0 := hid c2
  have HB_0 := hid c5
  clear c1 c2 c5
  have hne : ((t.size : Int) == 0) = false := by rw [beq_eq_false_iff_ne]; omega
  have hs3 : (t.size : Int) ≤ 300 := by omega
  have HK := hid hK
  clear hK
  have hut : (t.extract 0 K).data.toList = t.data.toList.take K := ext_take t K
  have HUT := hid hut
  clear hut
  have hus : (t.extract 0 K).size ≤ 300 := by rw [ByteArray.size_extract]; omega
  have hdt : (t.extract (K + 1) t.size).data.toList = t.data.toList.drop (K + 1) := ext_drop t (K + 1)
  have HDT := hid hdt
  clear hdt
  have hds : (t.extract (K + 1) t.size).size ≤ 300 := by rw [ByteArray.size_extract]; omega
  go_enter Tryd.func93, Tryd.ntmps93
  go_wp2_with fail
  refine (pslash_any t _ (by omega)).mono ?_
  rintro e wz ⟨rfl, rfl⟩
  rw [HK.out]
  obtain ⟨V0, hV⟩ : ∃ V0, V0 = (w.alloc (.cells #[.bool false, .slice none 0 0, .slice none 0 0] 82)).alloc (.cells #[.bool false, .slice none 0 0, .slice none 0 0] 82) := ⟨_, rfl⟩
  rw [← hV] at XR_0 XX_0 HB_0 ⊢
  clear hV
  have ltR := XR_0.out.lt
  have cR0 := XR_0.out.cell 0 _ rfl
  have zR0 := XR_0.out.frozen 0
  have cR1 := XR_0.out.cell 1 _ rfl
  have zR1 := XR_0.out.frozen 1
  have cR2 := XR_0.out.cell 2 _ rfl
  have zR2 := XR_0.out.frozen 2
  have ltX := XX_0.out.lt
  have cX0 := XX_0.out.cell 0 _ rfl
  have zX0 := XX_0.out.frozen 0
  have cX1 := XX_0.out.cell 1 _ rfl
  have zX1 := XX_0.out.frozen 1
  have cX2 := XX_0.out.cell 2 _ rfl
  have zX2 := XX_0.out.frozen 2
  go_wp2_with fail
  refine (pdigits_any (t.extract 0 K) _ (by omega)).mono ?_
  rintro e1 wz1 ⟨rfl, rfl⟩
  rw [HUT.out, hw.out]
  go_wp2_with fail
  refine (pdigits_any (t.extract (K + 1) t.size) _ (by omega)).mono ?_
  rintro e2 wz2 ⟨rfl, rfl⟩
  rw [HDT.out, hv.out]
  go_wp2_with fail
  refine (pheard_any (t.extract 0 K) _ (by omega) (by rw [HUT.out]; exact whole_all hw.out)).mono ?_
  rintro e0 w0 ⟨v0, rfl, ⟨po, pn, pc, rfl, hr0, _⟩, hb0⟩
  have XR_1 := hid (XR_0.out.keep hb0)
  have XX_1 := hid (XX_0.out.keep hb0)
  have HB_1 : Hid (Below w.heap.size w w0) := HB_0.out.trans (hb0.mono HB_0.out.size)
  clear ltR cR0 zR0 cR1 zR1 cR2 zR2 ltX cX0 zX0 cX1 zX1 cX2 zX2
  have ltR := XR_1.out.lt
  have cR0 := XR_1.out.cell 0 _ rfl
  have zR0 := XR_1.out.frozen 0
  have cR1 := XR_1.out.cell 1 _ rfl
  have zR1 := XR_1.out.frozen 1
  have cR2 := XR_1.out.cell 2 _ rfl
  have zR2 := XR_1.out.frozen 2
  have ltX := XX_1.out.lt
  have cX0 := XX_1.out.cell 0 _ rfl
  have zX0 := XX_1.out.frozen 0
  have cX1 := XX_1.out.cell 1 _ rfl
  have zX1 := XX_1.out.frozen 1
  have cX2 := XX_1.out.cell 2 _ rfl
  have zX2 := XX_1.out.frozen 2
  rw [HUT.out, hX.out] at hr0
  have Rp_1 := hid hr0
  have lenp := hr0.len
  have bdp : pn ≤ 300 := by have h6 := limbs_dv hw.out; rw [hX.out] at h6; have h7 : (t.data.toList.take K).length ≤ K := List.length_take_le _ _; omega
  clear hb0 hr0
  go_wp2_with fail
  obtain ⟨V1, hV⟩ : ∃ V1, V1 = w0.setCell ⟨w.heap.size + 1, 1, none⟩ (.slice po pn pc) := ⟨_, rfl⟩
  rw [← hV]
  have VR_V1 := hid (XR_1.out.other ⟨w.heap.size + 1, 1, none⟩ (.slice po pn pc) (by show w.heap.size + 1 ≠ _; omega))
  have VX_V1 := hid (XX_1.out.set1 (.slice po pn pc))
  have Up_V1 := hid (Rp_1.out.other (w.heap.size + 1) 1 (.slice po pn pc) XX_1.out (by decide))
  have VBel_V1 := hid (HB_1.out.setCell (p := ⟨w.heap.size + 1, 1, none⟩) (by show w.heap.size ≤ w.heap.size + 1; omega) (.slice po pn pc))
  rw [← hV] at VR_V1 VX_V1 Up_V1 VBel_V1
  clear hV
  refine (pheard_any (t.extract (K + 1) t.size) _ (by omega) (by rw [HDT.out]; exact whole_all hv.out)).mono ?_
  rintro e1 w1 ⟨v1, rfl, ⟨qo, qn, qc, rfl, hr1, _⟩, hb1⟩
  have XR_2 := hid (VR_V1.out.keep hb1)
  have XX_2 := hid (VX_V1.out.keep hb1)
  have Rp_2 := hid (Up_V1.out.below hb1)
  have HB_2 : Hid (Below w.heap.size w w1) := VBel_V1.out.trans (hb1.mono VBel_V1.out.size)
  clear ltR cR0 zR0 cR1 zR1 cR2 zR2 ltX cX0 zX0 cX1 zX1 cX2 zX2
  have ltR := XR_2.out.lt
  have cR0 := XR_2.out.cell 0 _ rfl
  have zR0 := XR_2.out.frozen 0
  have cR1 := XR_2.out.cell 1 _ rfl
  have zR1 := XR_2.out.frozen 1
  have cR2 := XR_2.out.cell 2 _ rfl
  have zR2 := XR_2.out.frozen 2
  have ltX := XX_2.out.lt
  have cX0 := XX_2.out.cell 0 _ rfl
  have zX0 := XX_2.out.frozen 0
  have cX1 := XX_2.out.cell 1 _ rfl
  have zX1 := XX_2.out.frozen 1
  have cX2 := XX_2.out.cell 2 _ rfl
  have zX2 := XX_2.out.frozen 2
  rw [HDT.out, hY.out] at hr1
  have lenq := hr1.len
  have bdq : qn ≤ 300 := by have h6 := limbs_dv hv.out; rw [hY.out, List.length_drop] at h6; have h7 : t.data.toList.length = t.size := (by simp); omega
  have Rq_2 := hid hr1
  clear hb1 hr1
  have hpn : ((pn : Int) == 0) = false := by
    rw [beq_eq_false_iff_ne]; have h2 := List.length_pos_iff.2 (limbs_ne_nil hX0.out); omega
  go_wp2_with fail
  obtain ⟨V2, hV⟩ : ∃ V2, V2 = w1.setCell ⟨w.heap.size + 1, 2, none⟩ (.slice qo qn qc) := ⟨_, rfl⟩
  rw [← hV]
  have VR_V2 := hid (XR_2.out.other ⟨w.heap.size + 1, 2, none⟩ (.slice qo qn qc) (by show w.heap.size + 1 ≠ _; omega))
  have VX_V2 := hid (XX_2.out.set2 (.slice qo qn qc))
  have Up_V2 := hid (Rp_2.out.other (w.heap.size + 1) 2 (.slice qo qn qc) XX_2.out (by decide))
  have Uq_V2 := hid (Rq_2.out.other (w.heap.size + 1) 2 (.slice qo qn qc) XX_2.out (by decide))
  have VBel_V2 := hid (HB_2.out.setCell (p := ⟨w.heap.size + 1, 2, none⟩) (by show w.heap.size ≤ w.heap.size + 1; omega) (.slice qo qn qc))
  rw [← hV] at VR_V2 VX_V2 Up_V2 Uq_V2 VBel_V2
  clear hV
  refine (pcommon_any po qo pn pc qn qc X Y _ Up_V2.out Uq_V2.out (by omega) (by omega) hX0.out hY0.out).mono ?_
  rintro e2 w2 ⟨v2, rfl, ⟨go, gn, gc, rfl, hr2, hfr⟩, hb2⟩
  have XR_3 := hid (VR_V2.out.keep hb2)
  have XX_3 := hid (VX_V2.out.keep hb2)
  have Rp_3 := hid (Up_V2.out.below hb2)
  have Rq_3 := hid (Uq_V2.out.below hb2)
  have HB_3 : Hid (Below w.heap.size w w2) := VBel_V2.out.trans (hb2.mono VBel_V2.out.size)
  clear ltR cR0 zR0 cR1 zR1 cR2 zR2 ltX cX0 zX0 cX1 zX1 cX2 zX2
  have ltR := XR_3.out.lt
  have cR0 := XR_3.out.cell 0 _ rfl
  have zR0 := XR_3.out.frozen 0
  have cR1 := XR_3.out.cell 1 _ rfl
  have zR1 := XR_3.out.frozen 1
  have cR2 := XR_3.out.cell 2 _ rfl
  have zR2 := XR_3.out.frozen 2
  have ltX := XX_3.out.lt
  have cX0 := XX_3.out.cell 0 _ rfl
  have zX0 := XX_3.out.frozen 0
  have cX1 := XX_3.out.cell 1 _ rfl
  have zX1 := XX_3.out.frozen 1
  have cX2 := XX_3.out.cell 2 _ rfl
  have zX2 := XX_3.out.frozen 2
  have Rg_3 := hid hr2
  have leng := hr2.len
  clear hb2 hr2
  have hg1 := limbs_is_one hone.out
  have hgn : gn = 1 := by omega
  subst hgn
  obtain ⟨gb, goff, rfl, hglt⟩ := Rg_3.out.head (by omega)
  have hgw : w.heap.size ≠ gb := by
    have h8 : w.heap.size < V2.heap.size := VR_V2.out.lt
    have h9 : V2.heap.size ≤ gb := hfr.2 _ rfl
    omega
  have gc0 := Rg_3.out.cell gb goff rfl 0 (by omega)
  rw [hg1.2] at gc0
  rw [Nat.add_zero] at gc0
  clear hg1
  go_wp2_with fail
  go_region
  go_wp2
  have P0 := XR_3.out
  have Z := (P0.put3 (.bool false) (.slice po pn pc) (.slice qo qn qc)).drew
  have z0 := Z.cell 0 _ rfl
  have z1 := Z.cell 1 _ rfl
  have z2 := Z.cell 2 _ rfl
  unfold wput3 at z0 z1 z2
  have BB := (below_put3 HB_3.out (Nat.le_refl _) (.bool false) (.slice po pn pc) (.slice qo qn qc)).drew
  refine bodyPost_ret (v := .tuple #[.agg #[.bool false, .slice po pn pc, .slice qo qn qc], .bool true]) (by simp [results, Tryd.results93, go_sem, z0, z1, z2]) rfl ⟨_, rfl, ⟨po, pn, pc, qo, qn, qc, rfl, ?_, ?_⟩, BB⟩
  · exact (Rp_3.out.put3 P0 (by decide) (.bool false) (.slice po pn pc) (.slice qo qn qc)).drew
  · exact (Rq_3.out.put3 P0 (by decide) (.bool false) (.slice po pn pc) (.slice qo qn qc)).drew

set_option maxHeartbeats 2000000 in
set_option maxRecDepth 20000 in
theorem pread_long_false (t : ByteArray) (K : Nat) (w : World) (hK : slashAt t.data.toList = K) (hts : t.size ≤ 300) (hKt : K ≤ t.size) (h0 : 0 < t.size) (hm : ((t[0].toNat : Int) == 45) = false) (hne2 : ((K : Int) == (t.size : Int)) = false) (hlt : K < t.size) (hw : Hid (wholeB (t.data.toList.take K) = true)) (X : Nat) (hX : Hid (dv (t.data.toList.take K) = X)) (hv : Hid (wholeB (t.data.toList.drop (K + 1)) = true)) (Y : Nat) (hY : Hid (dv (t.data.toList.drop (K + 1)) = Y)) (hd0 : ¬ (t.extract (K + 1) t.size).toList = [48]) (hd0b : ((t.extract (K + 1) t.size).toList == [48]) = false) (hd1 : ¬ (t.extract (K + 1) t.size).toList = [49]) (hd1b : ((t.extract (K + 1) t.size).toList == [49]) = false) (hX0 : Hid (X ≠ 0)) (hY0 : Hid (Y ≠ 0)) (hone : Hid ((limbs (Nat.gcd X Y)).length ≠ 1)) :
    Calls Tryd.prog 93 #[.string t] w fun e w' => ∃ nb na nn nc oa on oc, e = .returned (.tuple #[.agg #[.bool nb, .slice na nn nc, .slice oa on oc], .bool false]) ∧ Below w.heap.size w w' := by
  obtain ⟨c1, c2, c5⟩ := boxes2 w #[.bool false, .slice none 0 0, .slice none 0 0] #[.bool false, .slice none 0 0, .slice none 0 0] 82 82
  have XR_0 := hid c1
  have XX_0 := hid c2
  have HB_0 := hid c5
  clear c1 c2 c5
  have hne : ((t.size : Int) == 0) = false := by rw [beq_eq_false_iff_ne]; omega
  have hs3 : (t.size : Int) ≤ 300 := by omega
  have HK := hid hK
  clear hK
  have hut : (t.extract 0 K).data.toList = t.data.toList.take K := ext_take t K
  have HUT := hid hut
  clear hut
  have hus : (t.extract 0 K).size ≤ 300 := by rw [ByteArray.size_extract]; omega
  have hdt : (t.extract (K + 1) t.size).data.toList = t.data.toList.drop (K + 1) := ext_drop t (K + 1)
  have HDT := hid hdt
  clear hdt
  have hds : (t.extract (K + 1) t.size).size ≤ 300 := by rw [ByteArray.size_extract]; omega
  go_enter Tryd.func93, Tryd.ntmps93
  go_wp2_with fail
  refine (pslash_any t _ (by omega)).mono ?_
  rintro e wz ⟨rfl, rfl⟩
  rw [HK.out]
  obtain ⟨V0, hV⟩ : ∃ V0, V0 = (w.alloc (.cells #[.bool false, .slice none 0 0, .slice none 0 0] 82)).alloc (.cells #[.bool false, .slice none 0 0, .slice none 0 0] 82) := ⟨_, rfl⟩
  rw [← hV] at XR_0 XX_0 HB_0 ⊢
  clear hV
  have ltR := XR_0.out.lt
  have cR0 := XR_0.out.cell 0 _ rfl
  have zR0 := XR_0.out.frozen 0
  have cR1 := XR_0.out.cell 1 _ rfl
  have zR1 := XR_0.out.frozen 1
  have cR2 := XR_0.out.cell 2 _ rfl
  have zR2 := XR_0.out.frozen 2
  have ltX := XX_0.out.lt
  have cX0 := XX_0.out.cell 0 _ rfl
  have zX0 := XX_0.out.frozen 0
  have cX1 := XX_0.out.cell 1 _ rfl
  have zX1 := XX_0.out.frozen 1
  have cX2 := XX_0.out.cell 2 _ rfl
  have zX2 := XX_0.out.frozen 2
  go_wp2_with fail
  refine (pdigits_any (t.extract 0 K) _ (by omega)).mono ?_
  rintro e1 wz1 ⟨rfl, rfl⟩
  rw [HUT.out, hw.out]
  go_wp2_with fail
  refine (pdigits_any (t.extract (K + 1) t.size) _ (by omega)).mono ?_
  rintro e2 wz2 ⟨rfl, rfl⟩
  rw [HDT.out, hv.out]
  go_wp2_with fail
  refine (pheard_any (t.extract 0 K) _ (by omega) (by rw [HUT.out]; exact whole_all hw.out)).mono ?_
  rintro e0 w0 ⟨v0, rfl, ⟨po, pn, pc, rfl, hr0, _⟩, hb0⟩
  have XR_1 := hid (XR_0.out.keep hb0)
  have XX_1 := hid (XX_0.out.keep hb0)
  have HB_1 : Hid (Below w.heap.size w w0) := HB_0.out.trans (hb0.mono HB_0.out.size)
  clear ltR cR0 zR0 cR1 zR1 cR2 zR2 ltX cX0 zX0 cX1 zX1 cX2 zX2
  have ltR := XR_1.out.lt
  have cR0 := XR_1.out.cell 0 _ rfl
  have zR0 := XR_1.out.frozen 0
  have cR1 := XR_1.out.cell 1 _ rfl
  have zR1 := XR_1.out.frozen 1
  have cR2 := XR_1.out.cell 2 _ rfl
  have zR2 := XR_1.out.frozen 2
  have ltX := XX_1.out.lt
  have cX0 := XX_1.out.cell 0 _ rfl
  have zX0 := XX_1.out.frozen 0
  have cX1 := XX_1.out.cell 1 _ rfl
  have zX1 := XX_1.out.frozen 1
  have cX2 := XX_1.out.cell 2 _ rfl
  have zX2 := XX_1.out.frozen 2
  rw [HUT.out, hX.out] at hr0
  have Rp_1 := hid hr0
  have lenp := hr0.len
  have bdp : pn ≤ 300 := by have h6 := limbs_dv hw.out; rw [hX.out] at h6; have h7 : (t.data.toList.take K).length ≤ K := List.length_take_le _ _; omega
  clear hb0 hr0
  go_wp2_with fail
  obtain ⟨V1, hV⟩ : ∃ V1, V1 = w0.setCell ⟨w.heap.size + 1, 1, none⟩ (.slice po pn pc) := ⟨_, rfl⟩
  rw [← hV]
  have VR_V1 := hid (XR_1.out.other ⟨w.heap.size + 1, 1, none⟩ (.slice po pn pc) (by show w.heap.size + 1 ≠ _; omega))
  have VX_V1 := hid (XX_1.out.set1 (.slice po pn pc))
  have Up_V1 := hid (Rp_1.out.other (w.heap.size + 1) 1 (.slice po pn pc) XX_1.out (by decide))
  have VBel_V1 := hid (HB_1.out.setCell (p := ⟨w.heap.size + 1, 1, none⟩) (by show w.heap.size ≤ w.heap.size + 1; omega) (.slice po pn pc))
  rw [← hV] at VR_V1 VX_V1 Up_V1 VBel_V1
  clear hV
  refine (pheard_any (t.extract (K + 1) t.size) _ (by omega) (by rw [HDT.out]; exact whole_all hv.out)).mono ?_
  rintro e1 w1 ⟨v1, rfl, ⟨qo, qn, qc, rfl, hr1, _⟩, hb1⟩
  have XR_2 := hid (VR_V1.out.keep hb1)
  have XX_2 := hid (VX_V1.out.keep hb1)
  have Rp_2 := hid (Up_V1.out.below hb1)
  have HB_2 : Hid (Below w.heap.size w w1) := VBel_V1.out.trans (hb1.mono VBel_V1.out.size)
  clear ltR cR0 zR0 cR1 zR1 cR2 zR2 ltX cX0 zX0 cX1 zX1 cX2 zX2
  have ltR := XR_2.out.lt
  have cR0 := XR_2.out.cell 0 _ rfl
  have zR0 := XR_2.out.frozen 0
  have cR1 := XR_2.out.cell 1 _ rfl
  have zR1 := XR_2.out.frozen 1
  have cR2 := XR_2.out.cell 2 _ rfl
  have zR2 := XR_2.out.frozen 2
  have ltX := XX_2.out.lt
  have cX0 := XX_2.out.cell 0 _ rfl
  have zX0 := XX_2.out.frozen 0
  have cX1 := XX_2.out.cell 1 _ rfl
  have zX1 := XX_2.out.frozen 1
  have cX2 := XX_2.out.cell 2 _ rfl
  have zX2 := XX_2.out.frozen 2
  rw [HDT.out, hY.out] at hr1
  have lenq := hr1.len
  have bdq : qn ≤ 300 := by have h6 := limbs_dv hv.out; rw [hY.out, List.length_drop] at h6; have h7 : t.data.toList.length = t.size := (by simp); omega
  have Rq_2 := hid hr1
  clear hb1 hr1
  have hpn : ((pn : Int) == 0) = false := by
    rw [beq_eq_false_iff_ne]; have h2 := List.length_pos_iff.2 (limbs_ne_nil hX0.out); omega
  go_wp2_with fail
  obtain ⟨V2, hV⟩ : ∃ V2, V2 = w1.setCell ⟨w.heap.size + 1, 2, none⟩ (.slice qo qn qc) := ⟨_, rfl⟩
  rw [← hV]
  have VR_V2 := hid (XR_2.out.other ⟨w.heap.size + 1, 2, none⟩ (.slice qo qn qc) (by show w.heap.size + 1 ≠ _; omega))
  have VX_V2 := hid (XX_2.out.set2 (.slice qo qn qc))
  have Up_V2 := hid (Rp_2.out.other (w.heap.size + 1) 2 (.slice qo qn qc) XX_2.out (by decide))
  have Uq_V2 := hid (Rq_2.out.other (w.heap.size + 1) 2 (.slice qo qn qc) XX_2.out (by decide))
  have VBel_V2 := hid (HB_2.out.setCell (p := ⟨w.heap.size + 1, 2, none⟩) (by show w.heap.size ≤ w.heap.size + 1; omega) (.slice qo qn qc))
  rw [← hV] at VR_V2 VX_V2 Up_V2 Uq_V2 VBel_V2
  clear hV
  refine (pcommon_any po qo pn pc qn qc X Y _ Up_V2.out Uq_V2.out (by omega) (by omega) hX0.out hY0.out).mono ?_
  rintro e2 w2 ⟨v2, rfl, ⟨go, gn, gc, rfl, hr2, hfr⟩, hb2⟩
  have XR_3 := hid (VR_V2.out.keep hb2)
  have XX_3 := hid (VX_V2.out.keep hb2)
  have Rp_3 := hid (Up_V2.out.below hb2)
  have Rq_3 := hid (Uq_V2.out.below hb2)
  have HB_3 : Hid (Below w.heap.size w w2) := VBel_V2.out.trans (hb2.mono VBel_V2.out.size)
  clear ltR cR0 zR0 cR1 zR1 cR2 zR2 ltX cX0 zX0 cX1 zX1 cX2 zX2
  have ltR := XR_3.out.lt
  have cR0 := XR_3.out.cell 0 _ rfl
  have zR0 := XR_3.out.frozen 0
  have cR1 := XR_3.out.cell 1 _ rfl
  have zR1 := XR_3.out.frozen 1
  have cR2 := XR_3.out.cell 2 _ rfl
  have zR2 := XR_3.out.frozen 2
  have ltX := XX_3.out.lt
  have cX0 := XX_3.out.cell 0 _ rfl
  have zX0 := XX_3.out.frozen 0
  have cX1 := XX_3.out.cell 1 _ rfl
  have zX1 := XX_3.out.frozen 1
  have cX2 := XX_3.out.cell 2 _ rfl
  have zX2 := XX_3.out.frozen 2
  have Rg_3 := hid hr2
  have leng := hr2.len
  clear hb2 hr2
  have hgn : ((gn : Int) == 1) = false := by rw [beq_eq_false_iff_ne]; have := hone.out; omega
  go_wp2_with fail
  go_region
  go_wp2
  have P0 := XR_3.out
  have Z := (P0.put3 (.bool false) (.slice po pn pc) (.slice qo qn qc)).drew
  have z0 := Z.cell 0 _ rfl
  have z1 := Z.cell 1 _ rfl
  have z2 := Z.cell 2 _ rfl
  unfold wput3 at z0 z1 z2
  have BB := (below_put3 HB_3.out (Nat.le_refl _) (.bool false) (.slice po pn pc) (.slice qo qn qc)).drew
  exact bodyPost_ret (v := .tuple #[.agg #[.bool false, .slice po pn pc, .slice qo qn qc], .bool false]) (by simp [results, Tryd.results93, go_sem, z0, z1, z2]) rfl ⟨_, _, _, _, _, _, _, rfl, BB⟩

set_option maxHeartbeats 2000000 in
set_option maxRecDepth 20000 in
theorem pread_short_false (t : ByteArray) (K : Nat) (w : World) (hK : slashAt t.data.toList = K) (hts : t.size ≤ 300) (hKt : K ≤ t.size) (h0 : 0 < t.size) (hm : ((t[0].toNat : Int) == 45) = false) (hne2 : ((K : Int) == (t.size : Int)) = false) (hlt : K < t.size) (hw : Hid (wholeB (t.data.toList.take K) = true)) (X : Nat) (hX : Hid (dv (t.data.toList.take K) = X)) (hv : Hid (wholeB (t.data.toList.drop (K + 1)) = true)) (Y : Nat) (hY : Hid (dv (t.data.toList.drop (K + 1)) = Y)) (hd0 : ¬ (t.extract (K + 1) t.size).toList = [48]) (hd0b : ((t.extract (K + 1) t.size).toList == [48]) = false) (hd1 : ¬ (t.extract (K + 1) t.size).toList = [49]) (hd1b : ((t.extract (K + 1) t.size).toList == [49]) = false) (hX0 : Hid (X ≠ 0)) (hY0 : Hid (Y ≠ 0)) (hone : Hid (Nat.gcd X Y ≠ 1)) (hlen : Hid ((limbs (Nat.gcd X Y)).length = 1)) :
    Calls Tryd.prog 93 #[.string t] w fun e w' => ∃ nb na nn nc oa on oc, e = .returned (.tuple #[.agg #[.bool nb, .slice na nn nc, .slice oa on oc], .bool false]) ∧ Below w.heap.size w w' := by
  obtain ⟨c1, c2, c5⟩ := boxes2 w #[.bool false, .slice none 0 0, .slice none 0 0] #[.bool false, .slice none 0 0, .slice none 0 0] 82 82
  have XR_0 := hid c1
  have XX_0 := hid c2
  have HB_0 := hid c5
  clear c1 c2 c5
  have hne : ((t.size : Int) == 0) = false := by rw [beq_eq_false_iff_ne]; omega
  have hs3 : (t.size : Int) ≤ 300 := by omega
  have HK := hid hK
  clear hK
  have hut : (t.extract 0 K).data.toList = t.data.toList.take K := ext_take t K
  have HUT := hid hut
  clear hut
  have hus : (t.extract 0 K).size ≤ 300 := by rw [ByteArray.size_extract]; omega
  have hdt : (t.extract (K + 1) t.size).data.toList = t.data.toList.drop (K + 1) := ext_drop t (K + 1)
  have HDT := hid hdt
  clear hdt
  have hds : (t.extract (K + 1) t.size).size ≤ 300 := by rw [ByteArray.size_extract]; omega
  go_enter Tryd.func93, Tryd.ntmps93
  go_wp2_with fail
  refine (pslash_any t _ (by omega)).mono ?_
  rintro e wz ⟨rfl, rfl⟩
  rw [HK.out]
  obtain ⟨V0, hV⟩ : ∃ V0, V0 = (w.alloc (.cells #[.bool false, .slice none 0 0, .slice none 0 0] 82)).alloc (.cells #[.bool false, .slice none 0 0, .slice none 0 0] 82) := ⟨_, rfl⟩
  rw [← hV] at XR_0 XX_0 HB_0 ⊢
  clear hV
  have ltR := XR_0.out.lt
  have cR0 := XR_0.out.cell 0 _ rfl
  have zR0 := XR_0.out.frozen 0
  have cR1 := XR_0.out.cell 1 _ rfl
  have zR1 := XR_0.out.frozen 1
  have cR2 := XR_0.out.cell 2 _ rfl
  have zR2 := XR_0.out.frozen 2
  have ltX := XX_0.out.lt
  have cX0 := XX_0.out.cell 0 _ rfl
  have zX0 := XX_0.out.frozen 0
  have cX1 := XX_0.out.cell 1 _ rfl
  have zX1 := XX_0.out.frozen 1
  have cX2 := XX_0.out.cell 2 _ rfl
  have zX2 := XX_0.out.frozen 2
  go_wp2_with fail
  refine (pdigits_any (t.extract 0 K) _ (by omega)).mono ?_
  rintro e1 wz1 ⟨rfl, rfl⟩
  rw [HUT.out, hw.out]
  go_wp2_with fail
  refine (pdigits_any (t.extract (K + 1) t.size) _ (by omega)).mono ?_
  rintro e2 wz2 ⟨rfl, rfl⟩
  rw [HDT.out, hv.out]
  go_wp2_with fail
  refine (pheard_any (t.extract 0 K) _ (by omega) (by rw [HUT.out]; exact whole_all hw.out)).mono ?_
  rintro e0 w0 ⟨v0, rfl, ⟨po, pn, pc, rfl, hr0, _⟩, hb0⟩
  have XR_1 := hid (XR_0.out.keep hb0)
  have XX_1 := hid (XX_0.out.keep hb0)
  have HB_1 : Hid (Below w.heap.size w w0) := HB_0.out.trans (hb0.mono HB_0.out.size)
  clear ltR cR0 zR0 cR1 zR1 cR2 zR2 ltX cX0 zX0 cX1 zX1 cX2 zX2
  have ltR := XR_1.out.lt
  have cR0 := XR_1.out.cell 0 _ rfl
  have zR0 := XR_1.out.frozen 0
  have cR1 := XR_1.out.cell 1 _ rfl
  have zR1 := XR_1.out.frozen 1
  have cR2 := XR_1.out.cell 2 _ rfl
  have zR2 := XR_1.out.frozen 2
  have ltX := XX_1.out.lt
  have cX0 := XX_1.out.cell 0 _ rfl
  have zX0 := XX_1.out.frozen 0
  have cX1 := XX_1.out.cell 1 _ rfl
  have zX1 := XX_1.out.frozen 1
  have cX2 := XX_1.out.cell 2 _ rfl
  have zX2 := XX_1.out.frozen 2
  rw [HUT.out, hX.out] at hr0
  have Rp_1 := hid hr0
  have lenp := hr0.len
  have bdp : pn ≤ 300 := by have h6 := limbs_dv hw.out; rw [hX.out] at h6; have h7 : (t.data.toList.take K).length ≤ K := List.length_take_le _ _; omega
  clear hb0 hr0
  go_wp2_with fail
  obtain ⟨V1, hV⟩ : ∃ V1, V1 = w0.setCell ⟨w.heap.size + 1, 1, none⟩ (.slice po pn pc) := ⟨_, rfl⟩
  rw [← hV]
  have VR_V1 := hid (XR_1.out.other ⟨w.heap.size + 1, 1, none⟩ (.slice po pn pc) (by show w.heap.size + 1 ≠ _; omega))
  have VX_V1 := hid (XX_1.out.set1 (.slice po pn pc))
  have Up_V1 := hid (Rp_1.out.other (w.heap.size + 1) 1 (.slice po pn pc) XX_1.out (by decide))
  have VBel_V1 := hid (HB_1.out.setCell (p := ⟨w.heap.size + 1, 1, none⟩) (by show w.heap.size ≤ w.heap.size + 1; omega) (.slice po pn pc))
  rw [← hV] at VR_V1 VX_V1 Up_V1 VBel_V1
  clear hV
  refine (pheard_any (t.extract (K + 1) t.size) _ (by omega) (by rw [HDT.out]; exact whole_all hv.out)).mono ?_
  rintro e1 w1 ⟨v1, rfl, ⟨qo, qn, qc, rfl, hr1, _⟩, hb1⟩
  have XR_2 := hid (VR_V1.out.keep hb1)
  have XX_2 := hid (VX_V1.out.keep hb1)
  have Rp_2 := hid (Up_V1.out.below hb1)
  have HB_2 : Hid (Below w.heap.size w w1) := VBel_V1.out.trans (hb1.mono VBel_V1.out.size)
  clear ltR cR0 zR0 cR1 zR1 cR2 zR2 ltX cX0 zX0 cX1 zX1 cX2 zX2
  have ltR := XR_2.out.lt
  have cR0 := XR_2.out.cell 0 _ rfl
  have zR0 := XR_2.out.frozen 0
  have cR1 := XR_2.out.cell 1 _ rfl
  have zR1 := XR_2.out.frozen 1
  have cR2 := XR_2.out.cell 2 _ rfl
  have zR2 := XR_2.out.frozen 2
  have ltX := XX_2.out.lt
  have cX0 := XX_2.out.cell 0 _ rfl
  have zX0 := XX_2.out.frozen 0
  have cX1 := XX_2.out.cell 1 _ rfl
  have zX1 := XX_2.out.frozen 1
  have cX2 := XX_2.out.cell 2 _ rfl
  have zX2 := XX_2.out.frozen 2
  rw [HDT.out, hY.out] at hr1
  have lenq := hr1.len
  have bdq : qn ≤ 300 := by have h6 := limbs_dv hv.out; rw [hY.out, List.length_drop] at h6; have h7 : t.data.toList.length = t.size := (by simp); omega
  have Rq_2 := hid hr1
  clear hb1 hr1
  have hpn : ((pn : Int) == 0) = false := by
    rw [beq_eq_false_iff_ne]; have h2 := List.length_pos_iff.2 (limbs_ne_nil hX0.out); omega
  go_wp2_with fail
  obtain ⟨V2, hV⟩ : ∃ V2, V2 = w1.setCell ⟨w.heap.size + 1, 2, none⟩ (.slice qo qn qc) := ⟨_, rfl⟩
  rw [← hV]
  have VR_V2 := hid (XR_2.out.other ⟨w.heap.size + 1, 2, none⟩ (.slice qo qn qc) (by show w.heap.size + 1 ≠ _; omega))
  have VX_V2 := hid (XX_2.out.set2 (.slice qo qn qc))
  have Up_V2 := hid (Rp_2.out.other (w.heap.size + 1) 2 (.slice qo qn qc) XX_2.out (by decide))
  have Uq_V2 := hid (Rq_2.out.other (w.heap.size + 1) 2 (.slice qo qn qc) XX_2.out (by decide))
  have VBel_V2 := hid (HB_2.out.setCell (p := ⟨w.heap.size + 1, 2, none⟩) (by show w.heap.size ≤ w.heap.size + 1; omega) (.slice qo qn qc))
  rw [← hV] at VR_V2 VX_V2 Up_V2 Uq_V2 VBel_V2
  clear hV
  refine (pcommon_any po qo pn pc qn qc X Y _ Up_V2.out Uq_V2.out (by omega) (by omega) hX0.out hY0.out).mono ?_
  rintro e2 w2 ⟨v2, rfl, ⟨go, gn, gc, rfl, hr2, hfr⟩, hb2⟩
  have XR_3 := hid (VR_V2.out.keep hb2)
  have XX_3 := hid (VX_V2.out.keep hb2)
  have Rp_3 := hid (Up_V2.out.below hb2)
  have Rq_3 := hid (Uq_V2.out.below hb2)
  have HB_3 : Hid (Below w.heap.size w w2) := VBel_V2.out.trans (hb2.mono VBel_V2.out.size)
  clear ltR cR0 zR0 cR1 zR1 cR2 zR2 ltX cX0 zX0 cX1 zX1 cX2 zX2
  have ltR := XR_3.out.lt
  have cR0 := XR_3.out.cell 0 _ rfl
  have zR0 := XR_3.out.frozen 0
  have cR1 := XR_3.out.cell 1 _ rfl
  have zR1 := XR_3.out.frozen 1
  have cR2 := XR_3.out.cell 2 _ rfl
  have zR2 := XR_3.out.frozen 2
  have ltX := XX_3.out.lt
  have cX0 := XX_3.out.cell 0 _ rfl
  have zX0 := XX_3.out.frozen 0
  have cX1 := XX_3.out.cell 1 _ rfl
  have zX1 := XX_3.out.frozen 1
  have cX2 := XX_3.out.cell 2 _ rfl
  have zX2 := XX_3.out.frozen 2
  have Rg_3 := hid hr2
  have leng := hr2.len
  clear hb2 hr2
  have hgn : gn = 1 := by have := hlen.out; omega
  have hgne := limbs_not_one hone.out (by omega)
  subst hgn
  obtain ⟨gb, goff, rfl, hglt⟩ := Rg_3.out.head (by omega)
  have hgw : w.heap.size ≠ gb := by
    have h8 : w.heap.size < V2.heap.size := VR_V2.out.lt
    have h9 : V2.heap.size ≤ gb := hfr.2 _ rfl
    omega
  have gc0 := Rg_3.out.cell gb goff rfl 0 (by omega)
  rw [Nat.add_zero] at gc0
  have hgb : (lm (limbs (Nat.gcd X Y)) 0 == 1) = false := by rw [beq_eq_false_iff_ne]; exact hgne
  clear hgne
  go_wp2_with fail
  go_region
  go_wp2
  have P0 := XR_3.out
  have Z := (P0.put3 (.bool false) (.slice po pn pc) (.slice qo qn qc)).drew
  have z0 := Z.cell 0 _ rfl
  have z1 := Z.cell 1 _ rfl
  have z2 := Z.cell 2 _ rfl
  unfold wput3 at z0 z1 z2
  have BB := (below_put3 HB_3.out (Nat.le_refl _) (.bool false) (.slice po pn pc) (.slice qo qn qc)).drew
  exact bodyPost_ret (v := .tuple #[.agg #[.bool false, .slice po pn pc, .slice qo qn qc], .bool false]) (by simp [results, Tryd.results93, go_sem, z0, z1, z2]) rfl ⟨_, _, _, _, _, _, _, rfl, BB⟩

end Go.Proofs.YtigokanoflkinaaDoor

/- portionref.Read, of texts with a minus: no fraction, 0, a whole number. (Laid by mkrefr.py.) -/
namespace Go.Proofs.YtigokanoflkinaaDoor
set_option linter.unusedSimpArgs false
set_option linter.unusedVariables false
open Go.RowKit Por

set_option maxHeartbeats 2000000 in
set_option maxRecDepth 20000 in
theorem pread1_true (s t : ByteArray) (K : Nat) (w : World) (ht : t = s.extract 1 s.size) (hK : slashAt t.data.toList = K) (hts : t.size ≤ 300) (hKt : K ≤ t.size) (hs : s.size ≤ 300) (h0 : 0 < s.size) (hm : ((s[0].toNat : Int) == 45) = true) (heq : ((K : Int) == (t.size : Int)) = true) (hnl : ¬ K < t.size) (hw : Hid (wholeB (t.data.toList.take K) = false)) :
    Calls Tryd.prog 93 #[.string s] w fun e w' => ∃ nb na nn nc oa on oc, e = .returned (.tuple #[.agg #[.bool nb, .slice na nn nc, .slice oa on oc], .bool false]) ∧ Below w.heap.size w w' := by
  obtain ⟨c1, c2, c5⟩ := boxes2 w #[.bool false, .slice none 0 0, .slice none 0 0] #[.bool true, .slice none 0 0, .slice none 0 0] 82 82
  have XR_0 := hid c1
  have XX_0 := hid c2
  have HB_0 := hid c5
  clear c1 c2 c5
  have hne : ((s.size : Int) == 0) = false := by rw [beq_eq_false_iff_ne]; omega
  have hs3 : (s.size : Int) ≤ 300 := by omega
  have HT := hid ht
  clear ht
  have HK := hid hK
  clear hK
  have hut : (t.extract 0 K).data.toList = t.data.toList.take K := ext_take t K
  have HUT := hid hut
  clear hut
  have hus : (t.extract 0 K).size ≤ 300 := by rw [ByteArray.size_extract]; omega
  go_enter Tryd.func93, Tryd.ntmps93
  go_wp2_with fail
  rw [← HT.out]
  refine (pslash_any t _ (by omega)).mono ?_
  rintro e wz ⟨rfl, rfl⟩
  rw [HK.out]
  obtain ⟨V0, hV⟩ : ∃ V0, V0 = (w.alloc (.cells #[.bool false, .slice none 0 0, .slice none 0 0] 82)).alloc (.cells #[.bool true, .slice none 0 0, .slice none 0 0] 82) := ⟨_, rfl⟩
  rw [← hV] at XR_0 XX_0 HB_0 ⊢
  clear hV
  have ltR := XR_0.out.lt
  have cR0 := XR_0.out.cell 0 _ rfl
  have zR0 := XR_0.out.frozen 0
  have cR1 := XR_0.out.cell 1 _ rfl
  have zR1 := XR_0.out.frozen 1
  have cR2 := XR_0.out.cell 2 _ rfl
  have zR2 := XR_0.out.frozen 2
  have ltX := XX_0.out.lt
  have cX0 := XX_0.out.cell 0 _ rfl
  have zX0 := XX_0.out.frozen 0
  have cX1 := XX_0.out.cell 1 _ rfl
  have zX1 := XX_0.out.frozen 1
  have cX2 := XX_0.out.cell 2 _ rfl
  have zX2 := XX_0.out.frozen 2
  go_wp2_with fail
  refine (pdigits_any (t.extract 0 K) _ (by omega)).mono ?_
  rintro e1 wz1 ⟨rfl, rfl⟩
  rw [HUT.out, hw.out]
  go_wp2_with fail
  refine (pdigits_any ⟨#[49]⟩ _ (by decide)).mono ?_
  rintro e2 wz2 ⟨rfl, rfl⟩
  rw [bytes49, whole49]
  go_wp2
  have P0 := XR_0.out
  have Z := (P0.put3 (.bool true) (.slice none 0 0) (.slice none 0 0))
  have z0 := Z.cell 0 _ rfl
  have z1 := Z.cell 1 _ rfl
  have z2 := Z.cell 2 _ rfl
  unfold wput3 at z0 z1 z2
  have BB := (below_put3 HB_0.out (Nat.le_refl _) (.bool true) (.slice none 0 0) (.slice none 0 0))
  exact bodyPost_ret (v := .tuple #[.agg #[.bool true, .slice none 0 0, .slice none 0 0], .bool false]) (by simp [results, Tryd.results93, go_sem, z0, z1, z2]) rfl ⟨_, _, _, _, _, _, _, rfl, BB⟩

set_option maxHeartbeats 2000000 in
set_option maxRecDepth 20000 in
theorem pread2_true (s t : ByteArray) (K : Nat) (w : World) (ht : t = s.extract 1 s.size) (hK : slashAt t.data.toList = K) (hts : t.size ≤ 300) (hKt : K ≤ t.size) (hs : s.size ≤ 300) (h0 : 0 < s.size) (hm : ((s[0].toNat : Int) == 45) = true) (hne2 : ((K : Int) == (t.size : Int)) = false) (hlt : K < t.size) (vb : Bool) (hw : Hid (wholeB (t.data.toList.take K) = false)) (hv : Hid (wholeB (t.data.toList.drop (K + 1)) = vb)) :
    Calls Tryd.prog 93 #[.string s] w fun e w' => ∃ nb na nn nc oa on oc, e = .returned (.tuple #[.agg #[.bool nb, .slice na nn nc, .slice oa on oc], .bool false]) ∧ Below w.heap.size w w' := by
  obtain ⟨c1, c2, c5⟩ := boxes2 w #[.bool false, .slice none 0 0, .slice none 0 0] #[.bool true, .slice none 0 0, .slice none 0 0] 82 82
  have XR_0 := hid c1
  have XX_0 := hid c2
  have HB_0 := hid c5
  clear c1 c2 c5
  have hne : ((s.size : Int) == 0) = false := by rw [beq_eq_false_iff_ne]; omega
  have hs3 : (s.size : Int) ≤ 300 := by omega
  have HT := hid ht
  clear ht
  have HK := hid hK
  clear hK
  have hut : (t.extract 0 K).data.toList = t.data.toList.take K := ext_take t K
  have HUT := hid hut
  clear hut
  have hus : (t.extract 0 K).size ≤ 300 := by rw [ByteArray.size_extract]; omega
  have hdt : (t.extract (K + 1) t.size).data.toList = t.data.toList.drop (K + 1) := ext_drop t (K + 1)
  have HDT := hid hdt
  clear hdt
  have hds : (t.extract (K + 1) t.size).size ≤ 300 := by rw [ByteArray.size_extract]; omega
  go_enter Tryd.func93, Tryd.ntmps93
  go_wp2_with fail
  rw [← HT.out]
  refine (pslash_any t _ (by omega)).mono ?_
  rintro e wz ⟨rfl, rfl⟩
  rw [HK.out]
  obtain ⟨V0, hV⟩ : ∃ V0, V0 = (w.alloc (.cells #[.bool false, .slice none 0 0, .slice none 0 0] 82)).alloc (.cells #[.bool true, .slice none 0 0, .slice none 0 0] 82) := ⟨_, rfl⟩
  rw [← hV] at XR_0 XX_0 HB_0 ⊢
  clear hV
  have ltR := XR_0.out.lt
  have cR0 := XR_0.out.cell 0 _ rfl
  have zR0 := XR_0.out.frozen 0
  have cR1 := XR_0.out.cell 1 _ rfl
  have zR1 := XR_0.out.frozen 1
  have cR2 := XR_0.out.cell 2 _ rfl
  have zR2 := XR_0.out.frozen 2
  have ltX := XX_0.out.lt
  have cX0 := XX_0.out.cell 0 _ rfl
  have zX0 := XX_0.out.frozen 0
  have cX1 := XX_0.out.cell 1 _ rfl
  have zX1 := XX_0.out.frozen 1
  have cX2 := XX_0.out.cell 2 _ rfl
  have zX2 := XX_0.out.frozen 2
  go_wp2_with fail
  refine (pdigits_any (t.extract 0 K) _ (by omega)).mono ?_
  rintro e1 wz1 ⟨rfl, rfl⟩
  rw [HUT.out, hw.out]
  go_wp2_with fail
  refine (pdigits_any (t.extract (K + 1) t.size) _ (by omega)).mono ?_
  rintro e2 wz2 ⟨rfl, rfl⟩
  rw [HDT.out, hv.out]
  go_wp2
  have P0 := XR_0.out
  have Z := (P0.put3 (.bool true) (.slice none 0 0) (.slice none 0 0))
  have z0 := Z.cell 0 _ rfl
  have z1 := Z.cell 1 _ rfl
  have z2 := Z.cell 2 _ rfl
  unfold wput3 at z0 z1 z2
  have BB := (below_put3 HB_0.out (Nat.le_refl _) (.bool true) (.slice none 0 0) (.slice none 0 0))
  exact bodyPost_ret (v := .tuple #[.agg #[.bool true, .slice none 0 0, .slice none 0 0], .bool false]) (by simp [results, Tryd.results93, go_sem, z0, z1, z2]) rfl ⟨_, _, _, _, _, _, _, rfl, BB⟩

set_option maxHeartbeats 2000000 in
set_option maxRecDepth 20000 in
theorem pread3_true (s t : ByteArray) (K : Nat) (w : World) (ht : t = s.extract 1 s.size) (hK : slashAt t.data.toList = K) (hts : t.size ≤ 300) (hKt : K ≤ t.size) (hs : s.size ≤ 300) (h0 : 0 < s.size) (hm : ((s[0].toNat : Int) == 45) = true) (hne2 : ((K : Int) == (t.size : Int)) = false) (hlt : K < t.size) (hw : Hid (wholeB (t.data.toList.take K) = true)) (hv : Hid (wholeB (t.data.toList.drop (K + 1)) = false)) :
    Calls Tryd.prog 93 #[.string s] w fun e w' => ∃ nb na nn nc oa on oc, e = .returned (.tuple #[.agg #[.bool nb, .slice na nn nc, .slice oa on oc], .bool false]) ∧ Below w.heap.size w w' := by
  obtain ⟨c1, c2, c5⟩ := boxes2 w #[.bool false, .slice none 0 0, .slice none 0 0] #[.bool true, .slice none 0 0, .slice none 0 0] 82 82
  have XR_0 := hid c1
  have XX_0 := hid c2
  have HB_0 := hid c5
  clear c1 c2 c5
  have hne : ((s.size : Int) == 0) = false := by rw [beq_eq_false_iff_ne]; omega
  have hs3 : (s.size : Int) ≤ 300 := by omega
  have HT := hid ht
  clear ht
  have HK := hid hK
  clear hK
  have hut : (t.extract 0 K).data.toList = t.data.toList.take K := ext_take t K
  have HUT := hid hut
  clear hut
  have hus : (t.extract 0 K).size ≤ 300 := by rw [ByteArray.size_extract]; omega
  have hdt : (t.extract (K + 1) t.size).data.toList = t.data.toList.drop (K + 1) := ext_drop t (K + 1)
  have HDT := hid hdt
  clear hdt
  have hds : (t.extract (K + 1) t.size).size ≤ 300 := by rw [ByteArray.size_extract]; omega
  go_enter Tryd.func93, Tryd.ntmps93
  go_wp2_with fail
  rw [← HT.out]
  refine (pslash_any t _ (by omega)).mono ?_
  rintro e wz ⟨rfl, rfl⟩
  rw [HK.out]
  obtain ⟨V0, hV⟩ : ∃ V0, V0 = (w.alloc (.cells #[.bool false, .slice none 0 0, .slice none 0 0] 82)).alloc (.cells #[.bool true, .slice none 0 0, .slice none 0 0] 82) := ⟨_, rfl⟩
  rw [← hV] at XR_0 XX_0 HB_0 ⊢
  clear hV
  have ltR := XR_0.out.lt
  have cR0 := XR_0.out.cell 0 _ rfl
  have zR0 := XR_0.out.frozen 0
  have cR1 := XR_0.out.cell 1 _ rfl
  have zR1 := XR_0.out.frozen 1
  have cR2 := XR_0.out.cell 2 _ rfl
  have zR2 := XR_0.out.frozen 2
  have ltX := XX_0.out.lt
  have cX0 := XX_0.out.cell 0 _ rfl
  have zX0 := XX_0.out.frozen 0
  have cX1 := XX_0.out.cell 1 _ rfl
  have zX1 := XX_0.out.frozen 1
  have cX2 := XX_0.out.cell 2 _ rfl
  have zX2 := XX_0.out.frozen 2
  go_wp2_with fail
  refine (pdigits_any (t.extract 0 K) _ (by omega)).mono ?_
  rintro e1 wz1 ⟨rfl, rfl⟩
  rw [HUT.out, hw.out]
  go_wp2_with fail
  refine (pdigits_any (t.extract (K + 1) t.size) _ (by omega)).mono ?_
  rintro e2 wz2 ⟨rfl, rfl⟩
  rw [HDT.out, hv.out]
  go_wp2
  have P0 := XR_0.out
  have Z := (P0.put3 (.bool true) (.slice none 0 0) (.slice none 0 0))
  have z0 := Z.cell 0 _ rfl
  have z1 := Z.cell 1 _ rfl
  have z2 := Z.cell 2 _ rfl
  unfold wput3 at z0 z1 z2
  have BB := (below_put3 HB_0.out (Nat.le_refl _) (.bool true) (.slice none 0 0) (.slice none 0 0))
  exact bodyPost_ret (v := .tuple #[.agg #[.bool true, .slice none 0 0, .slice none 0 0], .bool false]) (by simp [results, Tryd.results93, go_sem, z0, z1, z2]) rfl ⟨_, _, _, _, _, _, _, rfl, BB⟩

set_option maxHeartbeats 2000000 in
set_option maxRecDepth 20000 in
theorem pread4_true (s t : ByteArray) (K : Nat) (w : World) (ht : t = s.extract 1 s.size) (hK : slashAt t.data.toList = K) (hts : t.size ≤ 300) (hKt : K ≤ t.size) (hs : s.size ≤ 300) (h0 : 0 < s.size) (hm : ((s[0].toNat : Int) == 45) = true) (heq : ((K : Int) == (t.size : Int)) = true) (hnl : ¬ K < t.size) (hw : Hid (wholeB (t.data.toList.take K) = true)) (X : Nat) (hX : Hid (dv (t.data.toList.take K) = X)) (hX0 : Hid (X = 0)) (h48 : ¬ s.toList = [48]) (h48b : (s.toList == [48]) = false) :
    Calls Tryd.prog 93 #[.string s] w fun e w' => ∃ nb na nn nc oa on oc, e = .returned (.tuple #[.agg #[.bool nb, .slice na nn nc, .slice oa on oc], .bool false]) ∧ Below w.heap.size w w' := by
  obtain ⟨c1, c2, c5⟩ := boxes2 w #[.bool false, .slice none 0 0, .slice none 0 0] #[.bool true, .slice none 0 0, .slice none 0 0] 82 82
  have XR_0 := hid c1
  have XX_0 := hid c2
  have HB_0 := hid c5
  clear c1 c2 c5
  have hne : ((s.size : Int) == 0) = false := by rw [beq_eq_false_iff_ne]; omega
  have hs3 : (s.size : Int) ≤ 300 := by omega
  have HT := hid ht
  clear ht
  have HK := hid hK
  clear hK
  have hut : (t.extract 0 K).data.toList = t.data.toList.take K := ext_take t K
  have HUT := hid hut
  clear hut
  have hus : (t.extract 0 K).size ≤ 300 := by rw [ByteArray.size_extract]; omega
  go_enter Tryd.func93, Tryd.ntmps93
  go_wp2_with fail
  rw [← HT.out]
  refine (pslash_any t _ (by omega)).mono ?_
  rintro e wz ⟨rfl, rfl⟩
  rw [HK.out]
  obtain ⟨V0, hV⟩ : ∃ V0, V0 = (w.alloc (.cells #[.bool false, .slice none 0 0, .slice none 0 0] 82)).alloc (.cells #[.bool true, .slice none 0 0, .slice none 0 0] 82) := ⟨_, rfl⟩
  rw [← hV] at XR_0 XX_0 HB_0 ⊢
  clear hV
  have ltR := XR_0.out.lt
  have cR0 := XR_0.out.cell 0 _ rfl
  have zR0 := XR_0.out.frozen 0
  have cR1 := XR_0.out.cell 1 _ rfl
  have zR1 := XR_0.out.frozen 1
  have cR2 := XR_0.out.cell 2 _ rfl
  have zR2 := XR_0.out.frozen 2
  have ltX := XX_0.out.lt
  have cX0 := XX_0.out.cell 0 _ rfl
  have zX0 := XX_0.out.frozen 0
  have cX1 := XX_0.out.cell 1 _ rfl
  have zX1 := XX_0.out.frozen 1
  have cX2 := XX_0.out.cell 2 _ rfl
  have zX2 := XX_0.out.frozen 2
  go_wp2_with fail
  refine (pdigits_any (t.extract 0 K) _ (by omega)).mono ?_
  rintro e1 wz1 ⟨rfl, rfl⟩
  rw [HUT.out, hw.out]
  go_wp2_with fail
  refine (pdigits_any ⟨#[49]⟩ _ (by decide)).mono ?_
  rintro e2 wz2 ⟨rfl, rfl⟩
  rw [bytes49, whole49]
  go_wp2_with fail
  refine (pheard_any (t.extract 0 K) _ (by omega) (by rw [HUT.out]; exact whole_all hw.out)).mono ?_
  rintro e0 w0 ⟨v0, rfl, ⟨po, pn, pc, rfl, hr0, _⟩, hb0⟩
  have XR_1 := hid (XR_0.out.keep hb0)
  have XX_1 := hid (XX_0.out.keep hb0)
  have HB_1 : Hid (Below w.heap.size w w0) := HB_0.out.trans (hb0.mono HB_0.out.size)
  clear ltR cR0 zR0 cR1 zR1 cR2 zR2 ltX cX0 zX0 cX1 zX1 cX2 zX2
  have ltR := XR_1.out.lt
  have cR0 := XR_1.out.cell 0 _ rfl
  have zR0 := XR_1.out.frozen 0
  have cR1 := XR_1.out.cell 1 _ rfl
  have zR1 := XR_1.out.frozen 1
  have cR2 := XR_1.out.cell 2 _ rfl
  have zR2 := XR_1.out.frozen 2
  have ltX := XX_1.out.lt
  have cX0 := XX_1.out.cell 0 _ rfl
  have zX0 := XX_1.out.frozen 0
  have cX1 := XX_1.out.cell 1 _ rfl
  have zX1 := XX_1.out.frozen 1
  have cX2 := XX_1.out.cell 2 _ rfl
  have zX2 := XX_1.out.frozen 2
  rw [HUT.out, hX.out] at hr0
  have Rp_1 := hid hr0
  have lenp := hr0.len
  have bdp : pn ≤ 300 := by have h6 := limbs_dv hw.out; rw [hX.out] at h6; have h7 : (t.data.toList.take K).length ≤ K := List.length_take_le _ _; omega
  clear hb0 hr0
  go_wp2_with fail
  obtain ⟨V1, hV⟩ : ∃ V1, V1 = w0.setCell ⟨w.heap.size + 1, 1, none⟩ (.slice po pn pc) := ⟨_, rfl⟩
  rw [← hV]
  have VR_V1 := hid (XR_1.out.other ⟨w.heap.size + 1, 1, none⟩ (.slice po pn pc) (by show w.heap.size + 1 ≠ _; omega))
  have VX_V1 := hid (XX_1.out.set1 (.slice po pn pc))
  have Up_V1 := hid (Rp_1.out.other (w.heap.size + 1) 1 (.slice po pn pc) XX_1.out (by decide))
  have VBel_V1 := hid (HB_1.out.setCell (p := ⟨w.heap.size + 1, 1, none⟩) (by show w.heap.size ≤ w.heap.size + 1; omega) (.slice po pn pc))
  rw [← hV] at VR_V1 VX_V1 Up_V1 VBel_V1
  clear hV
  refine (pheard_any ⟨#[49]⟩ _ (by decide) (by rw [bytes49]; exact whole_all whole49)).mono ?_
  rintro e1 w1 ⟨v1, rfl, ⟨qo, qn, qc, rfl, hr1, _⟩, hb1⟩
  have XR_2 := hid (VR_V1.out.keep hb1)
  have XX_2 := hid (VX_V1.out.keep hb1)
  have Rp_2 := hid (Up_V1.out.below hb1)
  have HB_2 : Hid (Below w.heap.size w w1) := VBel_V1.out.trans (hb1.mono VBel_V1.out.size)
  clear ltR cR0 zR0 cR1 zR1 cR2 zR2 ltX cX0 zX0 cX1 zX1 cX2 zX2
  have ltR := XR_2.out.lt
  have cR0 := XR_2.out.cell 0 _ rfl
  have zR0 := XR_2.out.frozen 0
  have cR1 := XR_2.out.cell 1 _ rfl
  have zR1 := XR_2.out.frozen 1
  have cR2 := XR_2.out.cell 2 _ rfl
  have zR2 := XR_2.out.frozen 2
  have ltX := XX_2.out.lt
  have cX0 := XX_2.out.cell 0 _ rfl
  have zX0 := XX_2.out.frozen 0
  have cX1 := XX_2.out.cell 1 _ rfl
  have zX1 := XX_2.out.frozen 1
  have cX2 := XX_2.out.cell 2 _ rfl
  have zX2 := XX_2.out.frozen 2
  rw [bytes49, dv49] at hr1
  have Rq_2 := hid hr1
  clear hb1 hr1
  have hpn : pn = 0 := by rw [← lenp, hX0.out]; rfl
  subst hpn
  go_wp2
  have P0 := XR_2.out.other ⟨w.heap.size + 1, 2, none⟩ (.slice qo qn qc) (by show w.heap.size + 1 ≠ _; omega)
  have Z := (P0.put3 (.bool true) (.slice po 0 pc) (.slice qo qn qc))
  have z0 := Z.cell 0 _ rfl
  have z1 := Z.cell 1 _ rfl
  have z2 := Z.cell 2 _ rfl
  unfold wput3 at z0 z1 z2
  have BB := (below_put3 (HB_2.out.setCell (p := ⟨w.heap.size + 1, 2, none⟩) (by show w.heap.size ≤ w.heap.size + 1; omega) (.slice qo qn qc)) (Nat.le_refl _) (.bool true) (.slice po 0 pc) (.slice qo qn qc))
  exact bodyPost_ret (v := .tuple #[.agg #[.bool true, .slice po 0 pc, .slice qo qn qc], .bool false]) (by simp [results, Tryd.results93, go_sem, z0, z1, z2]) rfl ⟨_, _, _, _, _, _, _, rfl, BB⟩

set_option maxHeartbeats 2000000 in
set_option maxRecDepth 20000 in
theorem pread5_true (s t : ByteArray) (K : Nat) (w : World) (ht : t = s.extract 1 s.size) (hK : slashAt t.data.toList = K) (hts : t.size ≤ 300) (hKt : K ≤ t.size) (hs : s.size ≤ 300) (h0 : 0 < s.size) (hm : ((s[0].toNat : Int) == 45) = true) (hne2 : ((K : Int) == (t.size : Int)) = false) (hlt : K < t.size) (hw : Hid (wholeB (t.data.toList.take K) = true)) (X : Nat) (hX : Hid (dv (t.data.toList.take K) = X)) (hv : Hid (wholeB (t.data.toList.drop (K + 1)) = true)) (Y : Nat) (hY : Hid (dv (t.data.toList.drop (K + 1)) = Y)) (hX0 : Hid (X = 0)) (h48 : ¬ s.toList = [48]) (h48b : (s.toList == [48]) = false) :
    Calls Tryd.prog 93 #[.string s] w fun e w' => ∃ nb na nn nc oa on oc, e = .returned (.tuple #[.agg #[.bool nb, .slice na nn nc, .slice oa on oc], .bool false]) ∧ Below w.heap.size w w' := by
  obtain ⟨c1, c2, c5⟩ := boxes2 w #[.bool false, .slice none 0 0, .slice none 0 0] #[.bool true, .slice none 0 0, .slice none 0 0] 82 82
  have XR_0 := hid c1
  have XX_0 := hid c2
  have HB_0 := hid c5
  clear c1 c2 c5
  have hne : ((s.size : Int) == 0) = false := by rw [beq_eq_false_iff_ne]; omega
  have hs3 : (s.size : Int) ≤ 300 := by omega
  have HT := hid ht
  clear ht
  have HK := hid hK
  clear hK
  have hut : (t.extract 0 K).data.toList = t.data.toList.take K := ext_take t K
  have HUT := hid hut
  clear hut
  have hus : (t.extract 0 K).size ≤ 300 := by rw [ByteArray.size_extract]; omega
  have hdt : (t.extract (K + 1) t.size).data.toList = t.data.toList.drop (K + 1) := ext_drop t (K + 1)
  have HDT := hid hdt
  clear hdt
  have hds : (t.extract (K + 1) t.size).size ≤ 300 := by rw [ByteArray.size_extract]; omega
  go_enter Tryd.func93, Tryd.ntmps93
  go_wp2_with fail
  rw [← HT.out]
  refine (pslash_any t _ (by omega)).mono ?_
  rintro e wz ⟨rfl, rfl⟩
  rw [HK.out]
  obtain ⟨V0, hV⟩ : ∃ V0, V0 = (w.alloc (.cells #[.bool false, .slice none 0 0, .slice none 0 0] 82)).alloc (.cells #[.bool true, .slice none 0 0, .slice none 0 0] 82) := ⟨_, rfl⟩
  rw [← hV] at XR_0 XX_0 HB_0 ⊢
  clear hV
  have ltR := XR_0.out.lt
  have cR0 := XR_0.out.cell 0 _ rfl
  have zR0 := XR_0.out.frozen 0
  have cR1 := XR_0.out.cell 1 _ rfl
  have zR1 := XR_0.out.frozen 1
  have cR2 := XR_0.out.cell 2 _ rfl
  have zR2 := XR_0.out.frozen 2
  have ltX := XX_0.out.lt
  have cX0 := XX_0.out.cell 0 _ rfl
  have zX0 := XX_0.out.frozen 0
  have cX1 := XX_0.out.cell 1 _ rfl
  have zX1 := XX_0.out.frozen 1
  have cX2 := XX_0.out.cell 2 _ rfl
  have zX2 := XX_0.out.frozen 2
  go_wp2_with fail
  refine (pdigits_any (t.extract 0 K) _ (by omega)).mono ?_
  rintro e1 wz1 ⟨rfl, rfl⟩
  rw [HUT.out, hw.out]
  go_wp2_with fail
  refine (pdigits_any (t.extract (K + 1) t.size) _ (by omega)).mono ?_
  rintro e2 wz2 ⟨rfl, rfl⟩
  rw [HDT.out, hv.out]
  go_wp2_with fail
  refine (pheard_any (t.extract 0 K) _ (by omega) (by rw [HUT.out]; exact whole_all hw.out)).mono ?_
  rintro e0 w0 ⟨v0, rfl, ⟨po, pn, pc, rfl, hr0, _⟩, hb0⟩
  have XR_1 := hid (XR_0.out.keep hb0)
  have XX_1 := hid (XX_0.out.keep hb0)
  have HB_1 : Hid (Below w.heap.size w w0) := HB_0.out.trans (hb0.mono HB_0.out.size)
  clear ltR cR0 zR0 cR1 zR1 cR2 zR2 ltX cX0 zX0 cX1 zX1 cX2 zX2
  have ltR := XR_1.out.lt
  have cR0 := XR_1.out.cell 0 _ rfl
  have zR0 := XR_1.out.frozen 0
  have cR1 := XR_1.out.cell 1 _ rfl
  have zR1 := XR_1.out.frozen 1
  have cR2 := XR_1.out.cell 2 _ rfl
  have zR2 := XR_1.out.frozen 2
  have ltX := XX_1.out.lt
  have cX0 := XX_1.out.cell 0 _ rfl
  have zX0 := XX_1.out.frozen 0
  have cX1 := XX_1.out.cell 1 _ rfl
  have zX1 := XX_1.out.frozen 1
  have cX2 := XX_1.out.cell 2 _ rfl
  have zX2 := XX_1.out.frozen 2
  rw [HUT.out, hX.out] at hr0
  have Rp_1 := hid hr0
  have lenp := hr0.len
  have bdp : pn ≤ 300 := by have h6 := limbs_dv hw.out; rw [hX.out] at h6; have h7 : (t.data.toList.take K).length ≤ K := List.length_take_le _ _; omega
  clear hb0 hr0
  go_wp2_with fail
  obtain ⟨V1, hV⟩ : ∃ V1, V1 = w0.setCell ⟨w.heap.size + 1, 1, none⟩ (.slice po pn pc) := ⟨_, rfl⟩
  rw [← hV]
  have VR_V1 := hid (XR_1.out.other ⟨w.heap.size + 1, 1, none⟩ (.slice po pn pc) (by show w.heap.size + 1 ≠ _; omega))
  have VX_V1 := hid (XX_1.out.set1 (.slice po pn pc))
  have Up_V1 := hid (Rp_1.out.other (w.heap.size + 1) 1 (.slice po pn pc) XX_1.out (by decide))
  have VBel_V1 := hid (HB_1.out.setCell (p := ⟨w.heap.size + 1, 1, none⟩) (by show w.heap.size ≤ w.heap.size + 1; omega) (.slice po pn pc))
  rw [← hV] at VR_V1 VX_V1 Up_V1 VBel_V1
  clear hV
  refine (pheard_any (t.extract (K + 1) t.size) _ (by omega) (by rw [HDT.out]; exact whole_all hv.out)).mono ?_
  rintro e1 w1 ⟨v1, rfl, ⟨qo, qn, qc, rfl, hr1, _⟩, hb1⟩
  have XR_2 := hid (VR_V1.out.keep hb1)
  have XX_2 := hid (VX_V1.out.keep hb1)
  have Rp_2 := hid (Up_V1.out.below hb1)
  have HB_2 : Hid (Below w.heap.size w w1) := VBel_V1.out.trans (hb1.mono VBel_V1.out.size)
  clear ltR cR0 zR0 cR1 zR1 cR2 zR2 ltX cX0 zX0 cX1 zX1 cX2 zX2
  have ltR := XR_2.out.lt
  have cR0 := XR_2.out.cell 0 _ rfl
  have zR0 := XR_2.out.frozen 0
  have cR1 := XR_2.out.cell 1 _ rfl
  have zR1 := XR_2.out.frozen 1
  have cR2 := XR_2.out.cell 2 _ rfl
  have zR2 := XR_2.out.frozen 2
  have ltX := XX_2.out.lt
  have cX0 := XX_2.out.cell 0 _ rfl
  have zX0 := XX_2.out.frozen 0
  have cX1 := XX_2.out.cell 1 _ rfl
  have zX1 := XX_2.out.frozen 1
  have cX2 := XX_2.out.cell 2 _ rfl
  have zX2 := XX_2.out.frozen 2
  rw [HDT.out, hY.out] at hr1
  have lenq := hr1.len
  have bdq : qn ≤ 300 := by have h6 := limbs_dv hv.out; rw [hY.out, List.length_drop] at h6; have h7 : t.data.toList.length = t.size := (by simp); omega
  have Rq_2 := hid hr1
  clear hb1 hr1
  have hpn : pn = 0 := by rw [← lenp, hX0.out]; rfl
  subst hpn
  go_wp2
  have P0 := XR_2.out.other ⟨w.heap.size + 1, 2, none⟩ (.slice qo qn qc) (by show w.heap.size + 1 ≠ _; omega)
  have Z := (P0.put3 (.bool true) (.slice po 0 pc) (.slice qo qn qc))
  have z0 := Z.cell 0 _ rfl
  have z1 := Z.cell 1 _ rfl
  have z2 := Z.cell 2 _ rfl
  unfold wput3 at z0 z1 z2
  have BB := (below_put3 (HB_2.out.setCell (p := ⟨w.heap.size + 1, 2, none⟩) (by show w.heap.size ≤ w.heap.size + 1; omega) (.slice qo qn qc)) (Nat.le_refl _) (.bool true) (.slice po 0 pc) (.slice qo qn qc))
  exact bodyPost_ret (v := .tuple #[.agg #[.bool true, .slice po 0 pc, .slice qo qn qc], .bool false]) (by simp [results, Tryd.results93, go_sem, z0, z1, z2]) rfl ⟨_, _, _, _, _, _, _, rfl, BB⟩

set_option maxHeartbeats 2000000 in
set_option maxRecDepth 20000 in
theorem pread7_true (s t : ByteArray) (K : Nat) (w : World) (ht : t = s.extract 1 s.size) (hK : slashAt t.data.toList = K) (hts : t.size ≤ 300) (hKt : K ≤ t.size) (hs : s.size ≤ 300) (h0 : 0 < s.size) (hm : ((s[0].toNat : Int) == 45) = true) (heq : ((K : Int) == (t.size : Int)) = true) (hnl : ¬ K < t.size) (hw : Hid (wholeB (t.data.toList.take K) = true)) (X : Nat) (hX : Hid (dv (t.data.toList.take K) = X)) (hX0 : Hid (X ≠ 0)) :
    Calls Tryd.prog 93 #[.string s] w fun e w' => ∃ v, e = .returned (.tuple #[v, .bool true]) ∧ PNv w' v true X 1 ∧ Below w.heap.size w w' := by
  obtain ⟨c1, c2, c5⟩ := boxes2 w #[.bool false, .slice none 0 0, .slice none 0 0] #[.bool true, .slice none 0 0, .slice none 0 0] 82 82
  have XR_0 := hid c1
  have XX_0 := hid c2
  have HB_0 := hid c5
  clear c1 c2 c5
  have hne : ((s.size : Int) == 0) = false := by rw [beq_eq_false_iff_ne]; omega
  have hs3 : (s.size : Int) ≤ 300 := by omega
  have HT := hid ht
  clear ht
  have HK := hid hK
  clear hK
  have hut : (t.extract 0 K).data.toList = t.data.toList.take K := ext_take t K
  have HUT := hid hut
  clear hut
  have hus : (t.extract 0 K).size ≤ 300 := by rw [ByteArray.size_extract]; omega
  go_enter Tryd.func93, Tryd.ntmps93
  go_wp2_with fail
  rw [← HT.out]
  refine (pslash_any t _ (by omega)).mono ?_
  rintro e wz ⟨rfl, rfl⟩
  rw [HK.out]
  obtain ⟨V0, hV⟩ : ∃ V0, V0 = (w.alloc (.cells #[.bool false, .slice none 0 0, .slice none 0 0] 82)).alloc (.cells #[.bool true, .slice none 0 0, .slice none 0 0] 82) := ⟨_, rfl⟩
  rw [← hV] at XR_0 XX_0 HB_0 ⊢
  clear hV
  have ltR := XR_0.out.lt
  have cR0 := XR_0.out.cell 0 _ rfl
  have zR0 := XR_0.out.frozen 0
  have cR1 := XR_0.out.cell 1 _ rfl
  have zR1 := XR_0.out.frozen 1
  have cR2 := XR_0.out.cell 2 _ rfl
  have zR2 := XR_0.out.frozen 2
  have ltX := XX_0.out.lt
  have cX0 := XX_0.out.cell 0 _ rfl
  have zX0 := XX_0.out.frozen 0
  have cX1 := XX_0.out.cell 1 _ rfl
  have zX1 := XX_0.out.frozen 1
  have cX2 := XX_0.out.cell 2 _ rfl
  have zX2 := XX_0.out.frozen 2
  go_wp2_with fail
  refine (pdigits_any (t.extract 0 K) _ (by omega)).mono ?_
  rintro e1 wz1 ⟨rfl, rfl⟩
  rw [HUT.out, hw.out]
  go_wp2_with fail
  refine (pdigits_any ⟨#[49]⟩ _ (by decide)).mono ?_
  rintro e2 wz2 ⟨rfl, rfl⟩
  rw [bytes49, whole49]
  go_wp2_with fail
  refine (pheard_any (t.extract 0 K) _ (by omega) (by rw [HUT.out]; exact whole_all hw.out)).mono ?_
  rintro e0 w0 ⟨v0, rfl, ⟨po, pn, pc, rfl, hr0, _⟩, hb0⟩
  have XR_1 := hid (XR_0.out.keep hb0)
  have XX_1 := hid (XX_0.out.keep hb0)
  have HB_1 : Hid (Below w.heap.size w w0) := HB_0.out.trans (hb0.mono HB_0.out.size)
  clear ltR cR0 zR0 cR1 zR1 cR2 zR2 ltX cX0 zX0 cX1 zX1 cX2 zX2
  have ltR := XR_1.out.lt
  have cR0 := XR_1.out.cell 0 _ rfl
  have zR0 := XR_1.out.frozen 0
  have cR1 := XR_1.out.cell 1 _ rfl
  have zR1 := XR_1.out.frozen 1
  have cR2 := XR_1.out.cell 2 _ rfl
  have zR2 := XR_1.out.frozen 2
  have ltX := XX_1.out.lt
  have cX0 := XX_1.out.cell 0 _ rfl
  have zX0 := XX_1.out.frozen 0
  have cX1 := XX_1.out.cell 1 _ rfl
  have zX1 := XX_1.out.frozen 1
  have cX2 := XX_1.out.cell 2 _ rfl
  have zX2 := XX_1.out.frozen 2
  rw [HUT.out, hX.out] at hr0
  have Rp_1 := hid hr0
  have lenp := hr0.len
  have bdp : pn ≤ 300 := by have h6 := limbs_dv hw.out; rw [hX.out] at h6; have h7 : (t.data.toList.take K).length ≤ K := List.length_take_le _ _; omega
  clear hb0 hr0
  go_wp2_with fail
  obtain ⟨V1, hV⟩ : ∃ V1, V1 = w0.setCell ⟨w.heap.size + 1, 1, none⟩ (.slice po pn pc) := ⟨_, rfl⟩
  rw [← hV]
  have VR_V1 := hid (XR_1.out.other ⟨w.heap.size + 1, 1, none⟩ (.slice po pn pc) (by show w.heap.size + 1 ≠ _; omega))
  have VX_V1 := hid (XX_1.out.set1 (.slice po pn pc))
  have Up_V1 := hid (Rp_1.out.other (w.heap.size + 1) 1 (.slice po pn pc) XX_1.out (by decide))
  have VBel_V1 := hid (HB_1.out.setCell (p := ⟨w.heap.size + 1, 1, none⟩) (by show w.heap.size ≤ w.heap.size + 1; omega) (.slice po pn pc))
  rw [← hV] at VR_V1 VX_V1 Up_V1 VBel_V1
  clear hV
  refine (pheard_any ⟨#[49]⟩ _ (by decide) (by rw [bytes49]; exact whole_all whole49)).mono ?_
  rintro e1 w1 ⟨v1, rfl, ⟨qo, qn, qc, rfl, hr1, _⟩, hb1⟩
  have XR_2 := hid (VR_V1.out.keep hb1)
  have XX_2 := hid (VX_V1.out.keep hb1)
  have Rp_2 := hid (Up_V1.out.below hb1)
  have HB_2 : Hid (Below w.heap.size w w1) := VBel_V1.out.trans (hb1.mono VBel_V1.out.size)
  clear ltR cR0 zR0 cR1 zR1 cR2 zR2 ltX cX0 zX0 cX1 zX1 cX2 zX2
  have ltR := XR_2.out.lt
  have cR0 := XR_2.out.cell 0 _ rfl
  have zR0 := XR_2.out.frozen 0
  have cR1 := XR_2.out.cell 1 _ rfl
  have zR1 := XR_2.out.frozen 1
  have cR2 := XR_2.out.cell 2 _ rfl
  have zR2 := XR_2.out.frozen 2
  have ltX := XX_2.out.lt
  have cX0 := XX_2.out.cell 0 _ rfl
  have zX0 := XX_2.out.frozen 0
  have cX1 := XX_2.out.cell 1 _ rfl
  have zX1 := XX_2.out.frozen 1
  have cX2 := XX_2.out.cell 2 _ rfl
  have zX2 := XX_2.out.frozen 2
  rw [bytes49, dv49] at hr1
  have Rq_2 := hid hr1
  clear hb1 hr1
  have hpn : ((pn : Int) == 0) = false := by
    rw [beq_eq_false_iff_ne]; have h2 := List.length_pos_iff.2 (limbs_ne_nil hX0.out); omega
  go_wp2
  have P0 := XR_2.out.other ⟨w.heap.size + 1, 2, none⟩ (.slice qo qn qc) (by show w.heap.size + 1 ≠ _; omega)
  have Z := (P0.put3 (.bool true) (.slice po pn pc) (.slice qo qn qc))
  have z0 := Z.cell 0 _ rfl
  have z1 := Z.cell 1 _ rfl
  have z2 := Z.cell 2 _ rfl
  unfold wput3 at z0 z1 z2
  have BB := (below_put3 (HB_2.out.setCell (p := ⟨w.heap.size + 1, 2, none⟩) (by show w.heap.size ≤ w.heap.size + 1; omega) (.slice qo qn qc)) (Nat.le_refl _) (.bool true) (.slice po pn pc) (.slice qo qn qc))
  refine bodyPost_ret (v := .tuple #[.agg #[.bool true, .slice po pn pc, .slice qo qn qc], .bool true]) (by simp [results, Tryd.results93, go_sem, z0, z1, z2]) rfl ⟨_, rfl, ⟨po, pn, pc, qo, qn, qc, rfl, ?_, ?_⟩, BB⟩
  · exact ((Rp_2.out.other _ _ _ XX_2.out (by decide)).put3 P0 (by decide) (.bool true) (.slice po pn pc) (.slice qo qn qc))
  · exact ((Rq_2.out.other _ _ _ XX_2.out (by decide)).put3 P0 (by decide) (.bool true) (.slice po pn pc) (.slice qo qn qc))

end Go.Proofs.YtigokanoflkinaaDoor

/- portionref.Read, of texts with a minus: the others. (Laid by mkrefr.py.) -/
namespace Go.Proofs.YtigokanoflkinaaDoor
set_option linter.unusedSimpArgs false
set_option linter.unusedVariables false
open Go.RowKit Por

set_option maxHeartbeats 2000000 in
set_option maxRecDepth 20000 in
theorem pread8_true (s t : ByteArray) (K : Nat) (w : World) (ht : t = s.extract 1 s.size) (hK : slashAt t.data.toList = K) (hts : t.size ≤ 300) (hKt : K ≤ t.size) (hs : s.size ≤ 300) (h0 : 0 < s.size) (hm : ((s[0].toNat : Int) == 45) = true) (hne2 : ((K : Int) == (t.size : Int)) = false) (hlt : K < t.size) (hw : Hid (wholeB (t.data.toList.take K) = true)) (X : Nat) (hX : Hid (dv (t.data.toList.take K) = X)) (hv : Hid (wholeB (t.data.toList.drop (K + 1)) = true)) (Y : Nat) (hY : Hid (dv (t.data.toList.drop (K + 1)) = Y)) (hX0 : Hid (X ≠ 0)) (hd0 : (t.extract (K + 1) t.size).toList = [48]) (hd0b : ((t.extract (K + 1) t.size).toList == [48]) = true) :
    Calls Tryd.prog 93 #[.string s] w fun e w' => ∃ nb na nn nc oa on oc, e = .returned (.tuple #[.agg #[.bool nb, .slice na nn nc, .slice oa on oc], .bool false]) ∧ Below w.heap.size w w' := by
  obtain ⟨c1, c2, c5⟩ := boxes2 w #[.bool false, .slice none 0 0, .slice none 0 0] #[.bool true, .slice none 0 0, .slice none 0 0] 82 82
  have XR_0 := hid c1
  have XX_0 := hid c2
  have HB_0 := hid c5
  clear c1 c2 c5
  have hne : ((s.size : Int) == 0) = false := by rw [beq_eq_false_iff_ne]; omega
  have hs3 : (s.size : Int) ≤ 300 := by omega
  have HT := hid ht
  clear ht
  have HK := hid hK
  clear hK
  have hut : (t.extract 0 K).data.toList = t.data.toList.take K := ext_take t K
  have HUT := hid hut
  clear hut
  have hus : (t.extract 0 K).size ≤ 300 := by rw [ByteArray.size_extract]; omega
  have hdt : (t.extract (K + 1) t.size).data.toList = t.data.toList.drop (K + 1) := ext_drop t (K + 1)
  have HDT := hid hdt
  clear hdt
  have hds : (t.extract (K + 1) t.size).size ≤ 300 := by rw [ByteArray.size_extract]; omega
  go_enter Tryd.func93, Tryd.ntmps93
  go_wp2_with fail
  rw [← HT.out]
  refine (pslash_any t _ (by omega)).mono ?_
  rintro e wz ⟨rfl, rfl⟩
  rw [HK.out]
  obtain ⟨V0, hV⟩ : ∃ V0, V0 = (w.alloc (.cells #[.bool false, .slice none 0 0, .slice none 0 0] 82)).alloc (.cells #[.bool true, .slice none 0 0, .slice none 0 0] 82) := ⟨_, rfl⟩
  rw [← hV] at XR_0 XX_0 HB_0 ⊢
  clear hV
  have ltR := XR_0.out.lt
  have cR0 := XR_0.out.cell 0 _ rfl
  have zR0 := XR_0.out.frozen 0
  have cR1 := XR_0.out.cell 1 _ rfl
  have zR1 := XR_0.out.frozen 1
  have cR2 := XR_0.out.cell 2 _ rfl
  have zR2 := XR_0.out.frozen 2
  have ltX := XX_0.out.lt
  have cX0 := XX_0.out.cell 0 _ rfl
  have zX0 := XX_0.out.frozen 0
  have cX1 := XX_0.out.cell 1 _ rfl
  have zX1 := XX_0.out.frozen 1
  have cX2 := XX_0.out.cell 2 _ rfl
  have zX2 := XX_0.out.frozen 2
  go_wp2_with fail
  refine (pdigits_any (t.extract 0 K) _ (by omega)).mono ?_
  rintro e1 wz1 ⟨rfl, rfl⟩
  rw [HUT.out, hw.out]
  go_wp2_with fail
  refine (pdigits_any (t.extract (K + 1) t.size) _ (by omega)).mono ?_
  rintro e2 wz2 ⟨rfl, rfl⟩
  rw [HDT.out, hv.out]
  go_wp2_with fail
  refine (pheard_any (t.extract 0 K) _ (by omega) (by rw [HUT.out]; exact whole_all hw.out)).mono ?_
  rintro e0 w0 ⟨v0, rfl, ⟨po, pn, pc, rfl, hr0, _⟩, hb0⟩
  have XR_1 := hid (XR_0.out.keep hb0)
  have XX_1 := hid (XX_0.out.keep hb0)
  have HB_1 : Hid (Below w.heap.size w w0) := HB_0.out.trans (hb0.mono HB_0.out.size)
  clear ltR cR0 zR0 cR1 zR1 cR2 zR2 ltX cX0 zX0 cX1 zX1 cX2 zX2
  have ltR := XR_1.out.lt
  have cR0 := XR_1.out.cell 0 _ rfl
  have zR0 := XR_1.out.frozen 0
  have cR1 := XR_1.out.cell 1 _ rfl
  have zR1 := XR_1.out.frozen 1
  have cR2 := XR_1.out.cell 2 _ rfl
  have zR2 := XR_1.out.frozen 2
  have ltX := XX_1.out.lt
  have cX0 := XX_1.out.cell 0 _ rfl
  have zX0 := XX_1.out.frozen 0
  have cX1 := XX_1.out.cell 1 _ rfl
  have zX1 := XX_1.out.frozen 1
  have cX2 := XX_1.out.cell 2 _ rfl
  have zX2 := XX_1.out.frozen 2
  rw [HUT.out, hX.out] at hr0
  have Rp_1 := hid hr0
  have lenp := hr0.len
  have bdp : pn ≤ 300 := by have h6 := limbs_dv hw.out; rw [hX.out] at h6; have h7 : (t.data.toList.take K).length ≤ K := List.length_take_le _ _; omega
  clear hb0 hr0
  go_wp2_with fail
  obtain ⟨V1, hV⟩ : ∃ V1, V1 = w0.setCell ⟨w.heap.size + 1, 1, none⟩ (.slice po pn pc) := ⟨_, rfl⟩
  rw [← hV]
  have VR_V1 := hid (XR_1.out.other ⟨w.heap.size + 1, 1, none⟩ (.slice po pn pc) (by show w.heap.size + 1 ≠ _; omega))
  have VX_V1 := hid (XX_1.out.set1 (.slice po pn pc))
  have Up_V1 := hid (Rp_1.out.other (w.heap.size + 1) 1 (.slice po pn pc) XX_1.out (by decide))
  have VBel_V1 := hid (HB_1.out.setCell (p := ⟨w.heap.size + 1, 1, none⟩) (by show w.heap.size ≤ w.heap.size + 1; omega) (.slice po pn pc))
  rw [← hV] at VR_V1 VX_V1 Up_V1 VBel_V1
  clear hV
  refine (pheard_any (t.extract (K + 1) t.size) _ (by omega) (by rw [HDT.out]; exact whole_all hv.out)).mono ?_
  rintro e1 w1 ⟨v1, rfl, ⟨qo, qn, qc, rfl, hr1, _⟩, hb1⟩
  have XR_2 := hid (VR_V1.out.keep hb1)
  have XX_2 := hid (VX_V1.out.keep hb1)
  have Rp_2 := hid (Up_V1.out.below hb1)
  have HB_2 : Hid (Below w.heap.size w w1) := VBel_V1.out.trans (hb1.mono VBel_V1.out.size)
  clear ltR cR0 zR0 cR1 zR1 cR2 zR2 ltX cX0 zX0 cX1 zX1 cX2 zX2
  have ltR := XR_2.out.lt
  have cR0 := XR_2.out.cell 0 _ rfl
  have zR0 := XR_2.out.frozen 0
  have cR1 := XR_2.out.cell 1 _ rfl
  have zR1 := XR_2.out.frozen 1
  have cR2 := XR_2.out.cell 2 _ rfl
  have zR2 := XR_2.out.frozen 2
  have ltX := XX_2.out.lt
  have cX0 := XX_2.out.cell 0 _ rfl
  have zX0 := XX_2.out.frozen 0
  have cX1 := XX_2.out.cell 1 _ rfl
  have zX1 := XX_2.out.frozen 1
  have cX2 := XX_2.out.cell 2 _ rfl
  have zX2 := XX_2.out.frozen 2
  rw [HDT.out, hY.out] at hr1
  have lenq := hr1.len
  have bdq : qn ≤ 300 := by have h6 := limbs_dv hv.out; rw [hY.out, List.length_drop] at h6; have h7 : t.data.toList.length = t.size := (by simp); omega
  have Rq_2 := hid hr1
  clear hb1 hr1
  have hpn : ((pn : Int) == 0) = false := by
    rw [beq_eq_false_iff_ne]; have h2 := List.length_pos_iff.2 (limbs_ne_nil hX0.out); omega
  go_wp2
  have P0 := XR_2.out.other ⟨w.heap.size + 1, 2, none⟩ (.slice qo qn qc) (by show w.heap.size + 1 ≠ _; omega)
  have Z := (P0.put3 (.bool true) (.slice po pn pc) (.slice qo qn qc))
  have z0 := Z.cell 0 _ rfl
  have z1 := Z.cell 1 _ rfl
  have z2 := Z.cell 2 _ rfl
  unfold wput3 at z0 z1 z2
  have BB := (below_put3 (HB_2.out.setCell (p := ⟨w.heap.size + 1, 2, none⟩) (by show w.heap.size ≤ w.heap.size + 1; omega) (.slice qo qn qc)) (Nat.le_refl _) (.bool true) (.slice po pn pc) (.slice qo qn qc))
  exact bodyPost_ret (v := .tuple #[.agg #[.bool true, .slice po pn pc, .slice qo qn qc], .bool false]) (by simp [results, Tryd.results93, go_sem, z0, z1, z2]) rfl ⟨_, _, _, _, _, _, _, rfl, BB⟩

set_option maxHeartbeats 2000000 in
set_option maxRecDepth 20000 in
theorem pread9_true (s t : ByteArray) (K : Nat) (w : World) (ht : t = s.extract 1 s.size) (hK : slashAt t.data.toList = K) (hts : t.size ≤ 300) (hKt : K ≤ t.size) (hs : s.size ≤ 300) (h0 : 0 < s.size) (hm : ((s[0].toNat : Int) == 45) = true) (hne2 : ((K : Int) == (t.size : Int)) = false) (hlt : K < t.size) (hw : Hid (wholeB (t.data.toList.take K) = true)) (X : Nat) (hX : Hid (dv (t.data.toList.take K) = X)) (hv : Hid (wholeB (t.data.toList.drop (K + 1)) = true)) (Y : Nat) (hY : Hid (dv (t.data.toList.drop (K + 1)) = Y)) (hX0 : Hid (X ≠ 0)) (hd0 : ¬ (t.extract (K + 1) t.size).toList = [48]) (hd0b : ((t.extract (K + 1) t.size).toList == [48]) = false) (hd1 : (t.extract (K + 1) t.size).toList = [49]) (hd1b : ((t.extract (K + 1) t.size).toList == [49]) = true) :
    Calls Tryd.prog 93 #[.string s] w fun e w' => ∃ nb na nn nc oa on oc, e = .returned (.tuple #[.agg #[.bool nb, .slice na nn nc, .slice oa on oc], .bool false]) ∧ Below w.heap.size w w' := by
  obtain ⟨c1, c2, c5⟩ := boxes2 w #[.bool false, .slice none 0 0, .slice none 0 0] #[.bool true, .slice none 0 0, .slice none 0 0] 82 82
  have XR_0 := hid c1
  have XX_0 := hid c2
  have HB_0 := hid c5
  clear c1 c2 c5
  have hne : ((s.size : Int) == 0) = false := by rw [beq_eq_false_iff_ne]; omega
  have hs3 : (s.size : Int) ≤ 300 := by omega
  have HT := hid ht
  clear ht
  have HK := hid hK
  clear hK
  have hut : (t.extract 0 K).data.toList = t.data.toList.take K := ext_take t K
  have HUT := hid hut
  clear hut
  have hus : (t.extract 0 K).size ≤ 300 := by rw [ByteArray.size_extract]; omega
  have hdt : (t.extract (K + 1) t.size).data.toList = t.data.toList.drop (K + 1) := ext_drop t (K + 1)
  have HDT := hid hdt
  clear hdt
  have hds : (t.extract (K + 1) t.size).size ≤ 300 := by rw [ByteArray.size_extract]; omega
  go_enter Tryd.func93, Tryd.ntmps93
  go_wp2_with fail
  rw [← HT.out]
  refine (pslash_any t _ (by omega)).mono ?_
  rintro e wz ⟨rfl, rfl⟩
  rw [HK.out]
  obtain ⟨V0, hV⟩ : ∃ V0, V0 = (w.alloc (.cells #[.bool false, .slice none 0 0, .slice none 0 0] 82)).alloc (.cells #[.bool true, .slice none 0 0, .slice none 0 0] 82) := ⟨_, rfl⟩
  rw [← hV] at XR_0 XX_0 HB_0 ⊢
  clear hV
  have ltR := XR_0.out.lt
  have cR0 := XR_0.out.cell 0 _ rfl
  have zR0 := XR_0.out.frozen 0
  have cR1 := XR_0.out.cell 1 _ rfl
  have zR1 := XR_0.out.frozen 1
  have cR2 := XR_0.out.cell 2 _ rfl
  have zR2 := XR_0.out.frozen 2
  have ltX := XX_0.out.lt
  have cX0 := XX_0.out.cell 0 _ rfl
  have zX0 := XX_0.out.frozen 0
  have cX1 := XX_0.out.cell 1 _ rfl
  have zX1 := XX_0.out.frozen 1
  have cX2 := XX_0.out.cell 2 _ rfl
  have zX2 := XX_0.out.frozen 2
  go_wp2_with fail
  refine (pdigits_any (t.extract 0 K) _ (by omega)).mono ?_
  rintro e1 wz1 ⟨rfl, rfl⟩
  rw [HUT.out, hw.out]
  go_wp2_with fail
  refine (pdigits_any (t.extract (K + 1) t.size) _ (by omega)).mono ?_
  rintro e2 wz2 ⟨rfl, rfl⟩
  rw [HDT.out, hv.out]
  go_wp2_with fail
  refine (pheard_any (t.extract 0 K) _ (by omega) (by rw [HUT.out]; exact whole_all hw.out)).mono ?_
  rintro e0 w0 ⟨v0, rfl, ⟨po, pn, pc, rfl, hr0, _⟩, hb0⟩
  have XR_1 := hid (XR_0.out.keep hb0)
  have XX_1 := hid (XX_0.out.keep hb0)
  have HB_1 : Hid (Below w.heap.size w w0) := HB_0.out.trans (hb0.mono HB_0.out.size)
  clear ltR cR0 zR0 cR1 zR1 cR2 zR2 ltX cX0 zX0 cX1 zX1 cX2 zX2
  have ltR := XR_1.out.lt
  have cR0 := XR_1.out.cell 0 _ rfl
  have zR0 := XR_1.out.frozen 0
  have cR1 := XR_1.out.cell 1 _ rfl
  have zR1 := XR_1.out.frozen 1
  have cR2 := XR_1.out.cell 2 _ rfl
  have zR2 := XR_1.out.frozen 2
  have ltX := XX_1.out.lt
  have cX0 := XX_1.out.cell 0 _ rfl
  have zX0 := XX_1.out.frozen 0
  have cX1 := XX_1.out.cell 1 _ rfl
  have zX1 := XX_1.out.frozen 1
  have cX2 := XX_1.out.cell 2 _ rfl
  have zX2 := XX_1.out.frozen 2
  rw [HUT.out, hX.out] at hr0
  have Rp_1 := hid hr0
  have lenp := hr0.len
  have bdp : pn ≤ 300 := by have h6 := limbs_dv hw.out; rw [hX.out] at h6; have h7 : (t.data.toList.take K).length ≤ K := List.length_take_le _ _; omega
  clear hb0 hr0
  go_wp2_with fail
  obtain ⟨V1, hV⟩ : ∃ V1, V1 = w0.setCell ⟨w.heap.size + 1, 1, none⟩ (.slice po pn pc) := ⟨_, rfl⟩
  rw [← hV]
  have VR_V1 := hid (XR_1.out.other ⟨w.heap.size + 1, 1, none⟩ (.slice po pn pc) (by show w.heap.size + 1 ≠ _; omega))
  have VX_V1 := hid (XX_1.out.set1 (.slice po pn pc))
  have Up_V1 := hid (Rp_1.out.other (w.heap.size + 1) 1 (.slice po pn pc) XX_1.out (by decide))
  have VBel_V1 := hid (HB_1.out.setCell (p := ⟨w.heap.size + 1, 1, none⟩) (by show w.heap.size ≤ w.heap.size + 1; omega) (.slice po pn pc))
  rw [← hV] at VR_V1 VX_V1 Up_V1 VBel_V1
  clear hV
  refine (pheard_any (t.extract (K + 1) t.size) _ (by omega) (by rw [HDT.out]; exact whole_all hv.out)).mono ?_
  rintro e1 w1 ⟨v1, rfl, ⟨qo, qn, qc, rfl, hr1, _⟩, hb1⟩
  have XR_2 := hid (VR_V1.out.keep hb1)
  have XX_2 := hid (VX_V1.out.keep hb1)
  have Rp_2 := hid (Up_V1.out.below hb1)
  have HB_2 : Hid (Below w.heap.size w w1) := VBel_V1.out.trans (hb1.mono VBel_V1.out.size)
  clear ltR cR0 zR0 cR1 zR1 cR2 zR2 ltX cX0 zX0 cX1 zX1 cX2 zX2
  have ltR := XR_2.out.lt
  have cR0 := XR_2.out.cell 0 _ rfl
  have zR0 := XR_2.out.frozen 0
  have cR1 := XR_2.out.cell 1 _ rfl
  have zR1 := XR_2.out.frozen 1
  have cR2 := XR_2.out.cell 2 _ rfl
  have zR2 := XR_2.out.frozen 2
  have ltX := XX_2.out.lt
  have cX0 := XX_2.out.cell 0 _ rfl
  have zX0 := XX_2.out.frozen 0
  have cX1 := XX_2.out.cell 1 _ rfl
  have zX1 := XX_2.out.frozen 1
  have cX2 := XX_2.out.cell 2 _ rfl
  have zX2 := XX_2.out.frozen 2
  rw [HDT.out, hY.out] at hr1
  have lenq := hr1.len
  have bdq : qn ≤ 300 := by have h6 := limbs_dv hv.out; rw [hY.out, List.length_drop] at h6; have h7 : t.data.toList.length = t.size := (by simp); omega
  have Rq_2 := hid hr1
  clear hb1 hr1
  have hpn : ((pn : Int) == 0) = false := by
    rw [beq_eq_false_iff_ne]; have h2 := List.length_pos_iff.2 (limbs_ne_nil hX0.out); omega
  go_wp2
  have P0 := XR_2.out.other ⟨w.heap.size + 1, 2, none⟩ (.slice qo qn qc) (by show w.heap.size + 1 ≠ _; omega)
  have Z := (P0.put3 (.bool true) (.slice po pn pc) (.slice qo qn qc))
  have z0 := Z.cell 0 _ rfl
  have z1 := Z.cell 1 _ rfl
  have z2 := Z.cell 2 _ rfl
  unfold wput3 at z0 z1 z2
  have BB := (below_put3 (HB_2.out.setCell (p := ⟨w.heap.size + 1, 2, none⟩) (by show w.heap.size ≤ w.heap.size + 1; omega) (.slice qo qn qc)) (Nat.le_refl _) (.bool true) (.slice po pn pc) (.slice qo qn qc))
  exact bodyPost_ret (v := .tuple #[.agg #[.bool true, .slice po pn pc, .slice qo qn qc], .bool false]) (by simp [results, Tryd.results93, go_sem, z0, z1, z2]) rfl ⟨_, _, _, _, _, _, _, rfl, BB⟩

set_option maxHeartbeats 2000000 in
set_option maxRecDepth 20000 in
theorem pread_one_true (s t : ByteArray) (K : Nat) (w : World) (ht : t = s.extract 1 s.size) (hK : slashAt t.data.toList = K) (hts : t.size ≤ 300) (hKt : K ≤ t.size) (hs : s.size ≤ 300) (h0 : 0 < s.size) (hm : ((s[0].toNat : Int) == 45) = true) (hne2 : ((K : Int) == (t.size : Int)) = false) (hlt : K < t.size) (hw : Hid (wholeB (t.data.toList.take K) = true)) (X : Nat) (hX : Hid (dv (t.data.toList.take K) = X)) (hv : Hid (wholeB (t.data.toList.drop (K + 1)) = true)) (Y : Nat) (hY : Hid (dv (t.data.toList.drop (K + 1)) = Y)) (hd0 : ¬ (t.extract (K + 1) t.size).toList = [48]) (hd0b : ((t.extract (K + 1) t.size).toList == [48]) = false) (hd1 : ¬ (t.extract (K + 1) t.size).toList = [49]) (hd1b : ((t.extract (K + 1) t.size).toList == [49]) = false) (hX0 : Hid (X ≠ 0)) (hY0 : Hid (Y ≠ 0)) (hone : Hid (Nat.gcd X Y = 1)) :
    Calls Tryd.prog 93 #[.string s] w fun e w' => ∃ v, e = .returned (.tuple #[v, .bool true]) ∧ PNv w' v true X Y ∧ Below w.heap.size w w' := by
  obtain ⟨c1, c2, c5⟩ := boxes2 w #[.bool false, .slice none 0 0, .slice none 0 0] #[.bool true, .slice none 0 0, .slice none 0 0] 82 82
  have XR_0 := hid c1
  have XX_0 := hid c2
  have HB_0 := hid c5
  clear c1 c2 c5
  have hne : ((s.size : Int) == 0) = false := by rw [beq_eq_false_iff_ne]; omega
  have hs3 : (s.size : Int) ≤ 300 := by omega
  have HT := hid ht
  clear ht
  have HK := hid hK
  clear hK
  have hut : (t.extract 0 K).data.toList = t.data.toList.take K := ext_take t K
  have HUT := hid hut
  clear hut
  have hus : (t.extract 0 K).size ≤ 300 := by rw [ByteArray.size_extract]; omega
  have hdt : (t.extract (K + 1) t.size).data.toList = t.data.toList.drop (K + 1) := ext_drop t (K + 1)
  have HDT := hid hdt
  clear hdt
  have hds : (t.extract (K + 1) t.size).size ≤ 300 := by rw [ByteArray.size_extract]; omega
  go_enter Tryd.func93, Tryd.ntmps93
  go_wp2_with fail
  rw [← HT.out]
  refine (pslash_any t _ (by omega)).mono ?_
  rintro e wz ⟨rfl, rfl⟩
  rw [HK.out]
  obtain ⟨V0, hV⟩ : ∃ V0, V0 = (w.alloc (.cells #[.bool false, .slice none 0 0, .slice none 0 0] 82)).alloc (.cells #[.bool true, .slice none 0 0, .slice none 0 0] 82) := ⟨_, rfl⟩
  rw [← hV] at XR_0 XX_0 HB_0 ⊢
  clear hV
  have ltR := XR_0.out.lt
  have cR0 := XR_0.out.cell 0 _ rfl
  have zR0 := XR_0.out.frozen 0
  have cR1 := XR_0.out.cell 1 _ rfl
  have zR1 := XR_0.out.frozen 1
  have cR2 := XR_0.out.cell 2 _ rfl
  have zR2 := XR_0.out.frozen 2
  have ltX := XX_0.out.lt
  have cX0 := XX_0.out.cell 0 _ rfl
  have zX0 := XX_0.out.frozen 0
  have cX1 := XX_0.out.cell 1 _ rfl
  have zX1 := XX_0.out.frozen 1
  have cX2 := XX_0.out.cell 2 _ rfl
  have zX2 := XX_0.out.frozen 2
  go_wp2_with fail
  refine (pdigits_any (t.extract 0 K) _ (by omega)).mono ?_
  rintro e1 wz1 ⟨rfl, rfl⟩
  rw [HUT.out, hw.out]
  go_wp2_with fail
  refine (pdigits_any (t.extract (K + 1) t.size) _ (by omega)).mono ?_
  rintro e2 wz2 ⟨rfl, rfl⟩
  rw [HDT.out, hv.out]
  go_wp2_with fail
  refine (pheard_any (t.extract 0 K) _ (by omega) (by rw [HUT.out]; exact whole_all hw.out)).mono ?_
  rintro e0 w0 ⟨v0, rfl, ⟨po, pn, pc, rfl, hr0, _⟩, hb0⟩
  have XR_1 := hid (XR_0.out.keep hb0)
  have XX_1 := hid (XX_0.out.keep hb0)
  have HB_1 : Hid (Below w.heap.size w w0) := HB_0.out.trans (hb0.mono HB_0.out.size)
  clear ltR cR0 zR0 cR1 zR1 cR2 zR2 ltX cX0 zX0 cX1 zX1 cX2 zX2
  have ltR := XR_1.out.lt
  have cR0 := XR_1.out.cell 0 _ rfl
  have zR0 := XR_1.out.frozen 0
  have cR1 := XR_1.out.cell 1 _ rfl
  have zR1 := XR_1.out.frozen 1
  have cR2 := XR_1.out.cell 2 _ rfl
  have zR2 := XR_1.out.frozen 2
  have ltX := XX_1.out.lt
  have cX0 := XX_1.out.cell 0 _ rfl
  have zX0 := XX_1.out.frozen 0
  have cX1 := XX_1.out.cell 1 _ rfl
  have zX1 := XX_1.out.frozen 1
  have cX2 := XX_1.out.cell 2 _ rfl
  have zX2 := XX_1.out.frozen 2
  rw [HUT.out, hX.out] at hr0
  have Rp_1 := hid hr0
  have lenp := hr0.len
  have bdp : pn ≤ 300 := by have h6 := limbs_dv hw.out; rw [hX.out] at h6; have h7 : (t.data.toList.take K).length ≤ K := List.length_take_le _ _; omega
  clear hb0 hr0
  go_wp2_with fail
  obtain ⟨V1, hV⟩ : ∃ V1, V1 = w0.setCell ⟨w.heap.size + 1, 1, none⟩ (.slice po pn pc) := ⟨_, rfl⟩
  rw [← hV]
  have VR_V1 := hid (XR_1.out.other ⟨w.heap.size + 1, 1, none⟩ (.slice po pn pc) (by show w.heap.size + 1 ≠ _; omega))
  have VX_V1 := hid (XX_1.out.set1 (.slice po pn pc))
  have Up_V1 := hid (Rp_1.out.other (w.heap.size + 1) 1 (.slice po pn pc) XX_1.out (by decide))
  have VBel_V1 := hid (HB_1.out.setCell (p := ⟨w.heap.size + 1, 1, none⟩) (by show w.heap.size ≤ w.heap.size + 1; omega) (.slice po pn pc))
  rw [← hV] at VR_V1 VX_V1 Up_V1 VBel_V1
  clear hV
  refine (pheard_any (t.extract (K + 1) t.size) _ (by omega) (by rw [HDT.out]; exact whole_all hv.out)).mono ?_
  rintro e1 w1 ⟨v1, rfl, ⟨qo, qn, qc, rfl, hr1, _⟩, hb1⟩
  have XR_2 := hid (VR_V1.out.keep hb1)
  have XX_2 := hid (VX_V1.out.keep hb1)
  have Rp_2 := hid (Up_V1.out.below hb1)
  have HB_2 : Hid (Below w.heap.size w w1) := VBel_V1.out.trans (hb1.mono VBel_V1.out.size)
  clear ltR cR0 zR0 cR1 zR1 cR2 zR2 ltX cX0 zX0 cX1 zX1 cX2 zX2
  have ltR := XR_2.out.lt
  have cR0 := XR_2.out.cell 0 _ rfl
  have zR0 := XR_2.out.frozen 0
  have cR1 := XR_2.out.cell 1 _ rfl
  have zR1 := XR_2.out.frozen 1
  have cR2 := XR_2.out.cell 2 _ rfl
  have zR2 := XR_2.out.frozen 2
  have ltX := XX_2.out.lt
  have cX0 := XX_2.out.cell 0 _ rfl
  have zX0 := XX_2.out.frozen 0
  have cX1 := XX_2.out.cell 1 _ rfl
  have zX1 := XX_2.out.frozen 1
  have cX2 := XX_2.out.cell 2 _ rfl
  have zX2 := XX_2.out.frozen 2
  rw [HDT.out, hY.out] at hr1
  have lenq := hr1.len
  have bdq : qn ≤ 300 := by have h6 := limbs_dv hv.out; rw [hY.out, List.length_drop] at h6; have h7 : t.data.toList.length = t.size := (by simp); omega
  have Rq_2 := hid hr1
  clear hb1 hr1
  have hpn : ((pn : Int) == 0) = false := by
    rw [beq_eq_false_iff_ne]; have h2 := List.length_pos_iff.2 (limbs_ne_nil hX0.out); omega
  go_wp2_with fail
  obtain ⟨V2, hV⟩ : ∃ V2, V2 = w1.setCell ⟨w.heap.size + 1, 2, none⟩ (.slice qo qn qc) := ⟨_, rfl⟩
  rw [← hV]
  have VR_V2 := hid (XR_2.out.other ⟨w.heap.size + 1, 2, none⟩ (.slice qo qn qc) (by show w.heap.size + 1 ≠ _; omega))
  have VX_V2 := hid (XX_2.out.set2 (.slice qo qn qc))
  have Up_V2 := hid (Rp_2.out.other (w.heap.size + 1) 2 (.slice qo qn qc) XX_2.out (by decide))
  have Uq_V2 := hid (Rq_2.out.other (w.heap.size + 1) 2 (.slice qo qn qc) XX_2.out (by decide))
  have VBel_V2 := hid (HB_2.out.setCell (p := ⟨w.heap.size + 1, 2, none⟩) (by show w.heap.size ≤ w.heap.size + 1; omega) (.slice qo qn qc))
  rw [← hV] at VR_V2 VX_V2 Up_V2 Uq_V2 VBel_V2
  clear hV
  refine (pcommon_any po qo pn pc qn qc X Y _ Up_V2.out Uq_V2.out (by omega) (by omega) hX0.out hY0.out).mono ?_
  rintro e2 w2 ⟨v2, rfl, ⟨go, gn, gc, rfl, hr2, hfr⟩, hb2⟩
  have XR_3 := hid (VR_V2.out.keep hb2)
  have XX_3 := hid (VX_V2.out.keep hb2)
  have Rp_3 := hid (Up_V2.out.below hb2)
  have Rq_3 := hid (Uq_V2.out.below hb2)
  have HB_3 : Hid (Below w.heap.size w w2) := VBel_V2.out.trans (hb2.mono VBel_V2.out.size)
  clear ltR cR0 zR0 cR1 zR1 cR2 zR2 ltX cX0 zX0 cX1 zX1 cX2 zX2
  have ltR := XR_3.out.lt
  have cR0 := XR_3.out.cell 0 _ rfl
  have zR0 := XR_3.out.frozen 0
  have cR1 := XR_3.out.cell 1 _ rfl
  have zR1 := XR_3.out.frozen 1
  have cR2 := XR_3.out.cell 2 _ rfl
  have zR2 := XR_3.out.frozen 2
  have ltX := XX_3.out.lt
  have cX0 := XX_3.out.cell 0 _ rfl
  have zX0 := XX_3.out.frozen 0
  have cX1 := XX_3.out.cell 1 _ rfl
  have zX1 := XX_3.out.frozen 1
  have cX2 := XX_3.out.cell 2 _ rfl
  have zX2 := XX_3.out.frozen 2
  have Rg_3 := hid hr2
  have leng := hr2.len
  clear hb2 hr2
  have hg1 := limbs_is_one hone.out
  have hgn : gn = 1 := by omega
  subst hgn
  obtain ⟨gb, goff, rfl, hglt⟩ := Rg_3.out.head (by omega)
  have hgw : w.heap.size ≠ gb := by
    have h8 : w.heap.size < V2.heap.size := VR_V2.out.lt
    have h9 : V2.heap.size ≤ gb := hfr.2 _ rfl
    omega
  have gc0 := Rg_3.out.cell gb goff rfl 0 (by omega)
  rw [hg1.2] at gc0
  rw [Nat.add_zero] at gc0
  clear hg1
  go_wp2_with fail
  go_region
  go_wp2
  have P0 := XR_3.out
  have Z := (P0.put3 (.bool true) (.slice po pn pc) (.slice qo qn qc)).drew
  have z0 := Z.cell 0 _ rfl
  have z1 := Z.cell 1 _ rfl
  have z2 := Z.cell 2 _ rfl
  unfold wput3 at z0 z1 z2
  have BB := (below_put3 HB_3.out (Nat.le_refl _) (.bool true) (.slice po pn pc) (.slice qo qn qc)).drew
  refine bodyPost_ret (v := .tuple #[.agg #[.bool true, .slice po pn pc, .slice qo qn qc], .bool true]) (by simp [results, Tryd.results93, go_sem, z0, z1, z2]) rfl ⟨_, rfl, ⟨po, pn, pc, qo, qn, qc, rfl, ?_, ?_⟩, BB⟩
  · exact (Rp_3.out.put3 P0 (by decide) (.bool true) (.slice po pn pc) (.slice qo qn qc)).drew
  · exact (Rq_3.out.put3 P0 (by decide) (.bool true) (.slice po pn pc) (.slice qo qn qc)).drew

set_option maxHeartbeats 2000000 in
set_option maxRecDepth 20000 in
theorem pread_long_true (s t : ByteArray) (K : Nat) (w : World) (ht : t = s.extract 1 s.size) (hK : slashAt t.data.toList = K) (hts : t.size ≤ 300) (hKt : K ≤ t.size) (hs : s.size ≤ 300) (h0 : 0 < s.size) (hm : ((s[0].toNat : Int) == 45) = true) (hne2 : ((K : Int) == (t.size : Int)) = false) (hlt : K < t.size) (hw : Hid (wholeB (t.data.toList.take K) = true)) (X : Nat) (hX : Hid (dv (t.data.toList.take K) = X)) (hv : Hid (wholeB (t.data.toList.drop (K + 1)) = true)) (Y : Nat) (hY : Hid (dv (t.data.toList.drop (K + 1)) = Y)) (hd0 : ¬ (t.extract (K + 1) t.size).toList = [48]) (hd0b : ((t.extract (K + 1) t.size).toList == [48]) = false) (hd1 : ¬ (t.extract (K + 1) t.size).toList = [49]) (hd1b : ((t.extract (K + 1) t.size).toList == [49]) = false) (hX0 : Hid (X ≠ 0)) (hY0 : Hid (Y ≠ 0)) (hone : Hid ((limbs (Nat.gcd X Y)).length ≠ 1)) :
    Calls Tryd.prog 93 #[.string s] w fun e w' => ∃ nb na nn nc oa on oc, e = .returned (.tuple #[.agg #[.bool nb, .slice na nn nc, .slice oa on oc], .bool false]) ∧ Below w.heap.size w w' := by
  obtain ⟨c1, c2, c5⟩ := boxes2 w #[.bool false, .slice none 0 0, .slice none 0 0] #[.bool true, .slice none 0 0, .slice none 0 0] 82 82
  have XR_0 := hid c1
  have XX_0 := hid c2
  have HB_0 := hid c5
  clear c1 c2 c5
  have hne : ((s.size : Int) == 0) = false := by rw [beq_eq_false_iff_ne]; omega
  have hs3 : (s.size : Int) ≤ 300 := by omega
  have HT := hid ht
  clear ht
  have HK := hid hK
  clear hK
  have hut : (t.extract 0 K).data.toList = t.data.toList.take K := ext_take t K
  have HUT := hid hut
  clear hut
  have hus : (t.extract 0 K).size ≤ 300 := by rw [ByteArray.size_extract]; omega
  have hdt : (t.extract (K + 1) t.size).data.toList = t.data.toList.drop (K + 1) := ext_drop t (K + 1)
  have HDT := hid hdt
  clear hdt
  have hds : (t.extract (K + 1) t.size).size ≤ 300 := by rw [ByteArray.size_extract]; omega
  go_enter Tryd.func93, Tryd.ntmps93
  go_wp2_with fail
  rw [← HT.out]
  refine (pslash_any t _ (by omega)).mono ?_
  rintro e wz ⟨rfl, rfl⟩
  rw [HK.out]
  obtain ⟨V0, hV⟩ : ∃ V0, V0 = (w.alloc (.cells #[.bool false, .slice none 0 0, .slice none 0 0] 82)).alloc (.cells #[.bool true, .slice none 0 0, .slice none 0 0] 82) := ⟨_, rfl⟩
  rw [← hV] at XR_0 XX_0 HB_0 ⊢
  clear hV
  have ltR := XR_0.out.lt
  have cR0 := XR_0.out.cell 0 _ rfl
  have zR0 := XR_0.out.frozen 0
  have cR1 := XR_0.out.cell 1 _ rfl
  have zR1 := XR_0.out.frozen 1
  have cR2 := XR_0.out.cell 2 _ rfl
  have zR2 := XR_0.out.frozen 2
  have ltX := XX_0.out.lt
  have cX0 := XX_0.out.cell 0 _ rfl
  have zX0 := XX_0.out.frozen 0
  have cX1 := XX_0.out.cell 1 _ rfl
  have zX1 := XX_0.out.frozen 1
  have cX2 := XX_0.out.cell 2 _ rfl
  have zX2 := XX_0.out.frozen 2
  go_wp2_with fail
  refine (pdigits_any (t.extract 0 K) _ (by omega)).mono ?_
  rintro e1 wz1 ⟨rfl, rfl⟩
  rw [HUT.out, hw.out]
  go_wp2_with fail
  refine (pdigits_any (t.extract (K + 1) t.size) _ (by omega)).mono ?_
  rintro e2 wz2 ⟨rfl, rfl⟩
  rw [HDT.out, hv.out]
  go_wp2_with fail
  refine (pheard_any (t.extract 0 K) _ (by omega) (by rw [HUT.out]; exact whole_all hw.out)).mono ?_
  rintro e0 w0 ⟨v0, rfl, ⟨po, pn, pc, rfl, hr0, _⟩, hb0⟩
  have XR_1 := hid (XR_0.out.keep hb0)
  have XX_1 := hid (XX_0.out.keep hb0)
  have HB_1 : Hid (Below w.heap.size w w0) := HB_0.out.trans (hb0.mono HB_0.out.size)
  clear ltR cR0 zR0 cR1 zR1 cR2 zR2 ltX cX0 zX0 cX1 zX1 cX2 zX2
  have ltR := XR_1.out.lt
  have cR0 := XR_1.out.cell 0 _ rfl
  have zR0 := XR_1.out.frozen 0
  have cR1 := XR_1.out.cell 1 _ rfl
  have zR1 := XR_1.out.frozen 1
  have cR2 := XR_1.out.cell 2 _ rfl
  have zR2 := XR_1.out.frozen 2
  have ltX := XX_1.out.lt
  have cX0 := XX_1.out.cell 0 _ rfl
  have zX0 := XX_1.out.frozen 0
  have cX1 := XX_1.out.cell 1 _ rfl
  have zX1 := XX_1.out.frozen 1
  have cX2 := XX_1.out.cell 2 _ rfl
  have zX2 := XX_1.out.frozen 2
  rw [HUT.out, hX.out] at hr0
  have Rp_1 := hid hr0
  have lenp := hr0.len
  have bdp : pn ≤ 300 := by have h6 := limbs_dv hw.out; rw [hX.out] at h6; have h7 : (t.data.toList.take K).length ≤ K := List.length_take_le _ _; omega
  clear hb0 hr0
  go_wp2_with fail
  obtain ⟨V1, hV⟩ : ∃ V1, V1 = w0.setCell ⟨w.heap.size + 1, 1, none⟩ (.slice po pn pc) := ⟨_, rfl⟩
  rw [← hV]
  have VR_V1 := hid (XR_1.out.other ⟨w.heap.size + 1, 1, none⟩ (.slice po pn pc) (by show w.heap.size + 1 ≠ _; omega))
  have VX_V1 := hid (XX_1.out.set1 (.slice po pn pc))
  have Up_V1 := hid (Rp_1.out.other (w.heap.size + 1) 1 (.slice po pn pc) XX_1.out (by decide))
  have VBel_V1 := hid (HB_1.out.setCell (p := ⟨w.heap.size + 1, 1, none⟩) (by show w.heap.size ≤ w.heap.size + 1; omega) (.slice po pn pc))
  rw [← hV] at VR_V1 VX_V1 Up_V1 VBel_V1
  clear hV
  refine (pheard_any (t.extract (K + 1) t.size) _ (by omega) (by rw [HDT.out]; exact whole_all hv.out)).mono ?_
  rintro e1 w1 ⟨v1, rfl, ⟨qo, qn, qc, rfl, hr1, _⟩, hb1⟩
  have XR_2 := hid (VR_V1.out.keep hb1)
  have XX_2 := hid (VX_V1.out.keep hb1)
  have Rp_2 := hid (Up_V1.out.below hb1)
  have HB_2 : Hid (Below w.heap.size w w1) := VBel_V1.out.trans (hb1.mono VBel_V1.out.size)
  clear ltR cR0 zR0 cR1 zR1 cR2 zR2 ltX cX0 zX0 cX1 zX1 cX2 zX2
  have ltR := XR_2.out.lt
  have cR0 := XR_2.out.cell 0 _ rfl
  have zR0 := XR_2.out.frozen 0
  have cR1 := XR_2.out.cell 1 _ rfl
  have zR1 := XR_2.out.frozen 1
  have cR2 := XR_2.out.cell 2 _ rfl
  have zR2 := XR_2.out.frozen 2
  have ltX := XX_2.out.lt
  have cX0 := XX_2.out.cell 0 _ rfl
  have zX0 := XX_2.out.frozen 0
  have cX1 := XX_2.out.cell 1 _ rfl
  have zX1 := XX_2.out.frozen 1
  have cX2 := XX_2.out.cell 2 _ rfl
  have zX2 := XX_2.out.frozen 2
  rw [HDT.out, hY.out] at hr1
  have lenq := hr1.len
  have bdq : qn ≤ 300 := by have h6 := limbs_dv hv.out; rw [hY.out, List.length_drop] at h6; have h7 : t.data.toList.length = t.size := (by simp); omega
  have Rq_2 := hid hr1
  clear hb1 hr1
  have hpn : ((pn : Int) == 0) = false := by
    rw [beq_eq_false_iff_ne]; have h2 := List.length_pos_iff.2 (limbs_ne_nil hX0.out); omega
  go_wp2_with fail
  obtain ⟨V2, hV⟩ : ∃ V2, V2 = w1.setCell ⟨w.heap.size + 1, 2, none⟩ (.slice qo qn qc) := ⟨_, rfl⟩
  rw [← hV]
  have VR_V2 := hid (XR_2.out.other ⟨w.heap.size + 1, 2, none⟩ (.slice qo qn qc) (by show w.heap.size + 1 ≠ _; omega))
  have VX_V2 := hid (XX_2.out.set2 (.slice qo qn qc))
  have Up_V2 := hid (Rp_2.out.other (w.heap.size + 1) 2 (.slice qo qn qc) XX_2.out (by decide))
  have Uq_V2 := hid (Rq_2.out.other (w.heap.size + 1) 2 (.slice qo qn qc) XX_2.out (by decide))
  have VBel_V2 := hid (HB_2.out.setCell (p := ⟨w.heap.size + 1, 2, none⟩) (by show w.heap.size ≤ w.heap.size + 1; omega) (.slice qo qn qc))
  rw [← hV] at VR_V2 VX_V2 Up_V2 Uq_V2 VBel_V2
  clear hV
  refine (pcommon_any po qo pn pc qn qc X Y _ Up_V2.out Uq_V2.out (by omega) (by omega) hX0.out hY0.out).mono ?_
  rintro e2 w2 ⟨v2, rfl, ⟨go, gn, gc, rfl, hr2, hfr⟩, hb2⟩
  have XR_3 := hid (VR_V2.out.keep hb2)
  have XX_3 := hid (VX_V2.out.keep hb2)
  have Rp_3 := hid (Up_V2.out.below hb2)
  have Rq_3 := hid (Uq_V2.out.below hb2)
  have HB_3 : Hid (Below w.heap.size w w2) := VBel_V2.out.trans (hb2.mono VBel_V2.out.size)
  clear ltR cR0 zR0 cR1 zR1 cR2 zR2 ltX cX0 zX0 cX1 zX1 cX2 zX2
  have ltR := XR_3.out.lt
  have cR0 := XR_3.out.cell 0 _ rfl
  have zR0 := XR_3.out.frozen 0
  have cR1 := XR_3.out.cell 1 _ rfl
  have zR1 := XR_3.out.frozen 1
  have cR2 := XR_3.out.cell 2 _ rfl
  have zR2 := XR_3.out.frozen 2
  have ltX := XX_3.out.lt
  have cX0 := XX_3.out.cell 0 _ rfl
  have zX0 := XX_3.out.frozen 0
  have cX1 := XX_3.out.cell 1 _ rfl
  have zX1 := XX_3.out.frozen 1
  have cX2 := XX_3.out.cell 2 _ rfl
  have zX2 := XX_3.out.frozen 2
  have Rg_3 := hid hr2
  have leng := hr2.len
  clear hb2 hr2
  have hgn : ((gn : Int) == 1) = false := by rw [beq_eq_false_iff_ne]; have := hone.out; omega
  go_wp2_with fail
  go_region
  go_wp2
  have P0 := XR_3.out
  have Z := (P0.put3 (.bool true) (.slice po pn pc) (.slice qo qn qc)).drew
  have z0 := Z.cell 0 _ rfl
  have z1 := Z.cell 1 _ rfl
  have z2 := Z.cell 2 _ rfl
  unfold wput3 at z0 z1 z2
  have BB := (below_put3 HB_3.out (Nat.le_refl _) (.bool true) (.slice po pn pc) (.slice qo qn qc)).drew
  exact bodyPost_ret (v := .tuple #[.agg #[.bool true, .slice po pn pc, .slice qo qn qc], .bool false]) (by simp [results, Tryd.results93, go_sem, z0, z1, z2]) rfl ⟨_, _, _, _, _, _, _, rfl, BB⟩

set_option maxHeartbeats 2000000 in
set_option maxRecDepth 20000 in
theorem pread_short_true (s t : ByteArray) (K : Nat) (w : World) (ht : t = s.extract 1 s.size) (hK : slashAt t.data.toList = K) (hts : t.size ≤ 300) (hKt : K ≤ t.size) (hs : s.size ≤ 300) (h0 : 0 < s.size) (hm : ((s[0].toNat : Int) == 45) = true) (hne2 : ((K : Int) == (t.size : Int)) = false) (hlt : K < t.size) (hw : Hid (wholeB (t.data.toList.take K) = true)) (X : Nat) (hX : Hid (dv (t.data.toList.take K) = X)) (hv : Hid (wholeB (t.data.toList.drop (K + 1)) = true)) (Y : Nat) (hY : Hid (dv (t.data.toList.drop (K + 1)) = Y)) (hd0 : ¬ (t.extract (K + 1) t.size).toList = [48]) (hd0b : ((t.extract (K + 1) t.size).toList == [48]) = false) (hd1 : ¬ (t.extract (K + 1) t.size).toList = [49]) (hd1b : ((t.extract (K + 1) t.size).toList == [49]) = false) (hX0 : Hid (X ≠ 0)) (hY0 : Hid (Y ≠ 0)) (hone : Hid (Nat.gcd X Y ≠ 1)) (hlen : Hid ((limbs (Nat.gcd X Y)).length = 1)) :
    Calls Tryd.prog 93 #[.string s] w fun e w' => ∃ nb na nn nc oa on oc, e = .returned (.tuple #[.agg #[.bool nb, .slice na nn nc, .slice oa on oc], .bool false]) ∧ Below w.heap.size w w' := by
  obtain ⟨c1, c2, c5⟩ := boxes2 w #[.bool false, .slice none 0 0, .slice none 0 0] #[.bool true, .slice none 0 0, .slice none 0 0] 82 82
  have XR_0 := hid c1
  have XX_0 := hid c2
  have HB_0 := hid c5
  clear c1 c2 c5
  have hne : ((s.size : Int) == 0) = false := by rw [beq_eq_false_iff_ne]; omega
  have hs3 : (s.size : Int) ≤ 300 := by omega
  have HT := hid ht
  clear ht
  have HK := hid hK
  clear hK
  have hut : (t.extract 0 K).data.toList = t.data.toList.take K := ext_take t K
  have HUT := hid hut
  clear hut
  have hus : (t.extract 0 K).size ≤ 300 := by rw [ByteArray.size_extract]; omega
  have hdt : (t.extract (K + 1) t.size).data.toList = t.data.toList.drop (K + 1) := ext_drop t (K + 1)
  have HDT := hid hdt
  clear hdt
  have hds : (t.extract (K + 1) t.size).size ≤ 300 := by rw [ByteArray.size_extract]; omega
  go_enter Tryd.func93, Tryd.ntmps93
  go_wp2_with fail
  rw [← HT.out]
  refine (pslash_any t _ (by omega)).mono ?_
  rintro e wz ⟨rfl, rfl⟩
  rw [HK.out]
  obtain ⟨V0, hV⟩ : ∃ V0, V0 = (w.alloc (.cells #[.bool false, .slice none 0 0, .slice none 0 0] 82)).alloc (.cells #[.bool true, .slice none 0 0, .slice none 0 0] 82) := ⟨_, rfl⟩
  rw [← hV] at XR_0 XX_0 HB_0 ⊢
  clear hV
  have ltR := XR_0.out.lt
  have cR0 := XR_0.out.cell 0 _ rfl
  have zR0 := XR_0.out.frozen 0
  have cR1 := XR_0.out.cell 1 _ rfl
  have zR1 := XR_0.out.frozen 1
  have cR2 := XR_0.out.cell 2 _ rfl
  have zR2 := XR_0.out.frozen 2
  have ltX := XX_0.out.lt
  have cX0 := XX_0.out.cell 0 _ rfl
  have zX0 := XX_0.out.frozen 0
  have cX1 := XX_0.out.cell 1 _ rfl
  have zX1 := XX_0.out.frozen 1
  have cX2 := XX_0.out.cell 2 _ rfl
  have zX2 := XX_0.out.frozen 2
  go_wp2_with fail
  refine (pdigits_any (t.extract 0 K) _ (by omega)).mono ?_
  rintro e1 wz1 ⟨rfl, rfl⟩
  rw [HUT.out, hw.out]
  go_wp2_with fail
  refine (pdigits_any (t.extract (K + 1) t.size) _ (by omega)).mono ?_
  rintro e2 wz2 ⟨rfl, rfl⟩
  rw [HDT.out, hv.out]
  go_wp2_with fail
  refine (pheard_any (t.extract 0 K) _ (by omega) (by rw [HUT.out]; exact whole_all hw.out)).mono ?_
  rintro e0 w0 ⟨v0, rfl, ⟨po, pn, pc, rfl, hr0, _⟩, hb0⟩
  have XR_1 := hid (XR_0.out.keep hb0)
  have XX_1 := hid (XX_0.out.keep hb0)
  have HB_1 : Hid (Below w.heap.size w w0) := HB_0.out.trans (hb0.mono HB_0.out.size)
  clear ltR cR0 zR0 cR1 zR1 cR2 zR2 ltX cX0 zX0 cX1 zX1 cX2 zX2
  have ltR := XR_1.out.lt
  have cR0 := XR_1.out.cell 0 _ rfl
  have zR0 := XR_1.out.frozen 0
  have cR1 := XR_1.out.cell 1 _ rfl
  have zR1 := XR_1.out.frozen 1
  have cR2 := XR_1.out.cell 2 _ rfl
  have zR2 := XR_1.out.frozen 2
  have ltX := XX_1.out.lt
  have cX0 := XX_1.out.cell 0 _ rfl
  have zX0 := XX_1.out.frozen 0
  have cX1 := XX_1.out.cell 1 _ rfl
  have zX1 := XX_1.out.frozen 1
  have cX2 := XX_1.out.cell 2 _ rfl
  have zX2 := XX_1.out.frozen 2
  rw [HUT.out, hX.out] at hr0
  have Rp_1 := hid hr0
  have lenp := hr0.len
  have bdp : pn ≤ 300 := by have h6 := limbs_dv hw.out; rw [hX.out] at h6; have h7 : (t.data.toList.take K).length ≤ K := List.length_take_le _ _; omega
  clear hb0 hr0
  go_wp2_with fail
  obtain ⟨V1, hV⟩ : ∃ V1, V1 = w0.setCell ⟨w.heap.size + 1, 1, none⟩ (.slice po pn pc) := ⟨_, rfl⟩
  rw [← hV]
  have VR_V1 := hid (XR_1.out.other ⟨w.heap.size + 1, 1, none⟩ (.slice po pn pc) (by show w.heap.size + 1 ≠ _; omega))
  have VX_V1 := hid (XX_1.out.set1 (.slice po pn pc))
  have Up_V1 := hid (Rp_1.out.other (w.heap.size + 1) 1 (.slice po pn pc) XX_1.out (by decide))
  have VBel_V1 := hid (HB_1.out.setCell (p := ⟨w.heap.size + 1, 1, none⟩) (by show w.heap.size ≤ w.heap.size + 1; omega) (.slice po pn pc))
  rw [← hV] at VR_V1 VX_V1 Up_V1 VBel_V1
  clear hV
  refine (pheard_any (t.extract (K + 1) t.size) _ (by omega) (by rw [HDT.out]; exact whole_all hv.out)).mono ?_
  rintro e1 w1 ⟨v1, rfl, ⟨qo, qn, qc, rfl, hr1, _⟩, hb1⟩
  have XR_2 := hid (VR_V1.out.keep hb1)
  have XX_2 := hid (VX_V1.out.keep hb1)
  have Rp_2 := hid (Up_V1.out.below hb1)
  have HB_2 : Hid (Below w.heap.size w w1) := VBel_V1.out.trans (hb1.mono VBel_V1.out.size)
  clear ltR cR0 zR0 cR1 zR1 cR2 zR2 ltX cX0 zX0 cX1 zX1 cX2 zX2
  have ltR := XR_2.out.lt
  have cR0 := XR_2.out.cell 0 _ rfl
  have zR0 := XR_2.out.frozen 0
  have cR1 := XR_2.out.cell 1 _ rfl
  have zR1 := XR_2.out.frozen 1
  have cR2 := XR_2.out.cell 2 _ rfl
  have zR2 := XR_2.out.frozen 2
  have ltX := XX_2.out.lt
  have cX0 := XX_2.out.cell 0 _ rfl
  have zX0 := XX_2.out.frozen 0
  have cX1 := XX_2.out.cell 1 _ rfl
  have zX1 := XX_2.out.frozen 1
  have cX2 := XX_2.out.cell 2 _ rfl
  have zX2 := XX_2.out.frozen 2
  rw [HDT.out, hY.out] at hr1
  have lenq := hr1.len
  have bdq : qn ≤ 300 := by have h6 := limbs_dv hv.out; rw [hY.out, List.length_drop] at h6; have h7 : t.data.toList.length = t.size := (by simp); omega
  have Rq_2 := hid hr1
  clear hb1 hr1
  have hpn : ((pn : Int) == 0) = false := by
    rw [beq_eq_false_iff_ne]; have h2 := List.length_pos_iff.2 (limbs_ne_nil hX0.out); omega
  go_wp2_with fail
  obtain ⟨V2, hV⟩ : ∃ V2, V2 = w1.setCell ⟨w.heap.size + 1, 2, none⟩ (.slice qo qn qc) := ⟨_, rfl⟩
  rw [← hV]
  have VR_V2 := hid (XR_2.out.other ⟨w.heap.size + 1, 2, none⟩ (.slice qo qn qc) (by show w.heap.size + 1 ≠ _; omega))
  have VX_V2 := hid (XX_2.out.set2 (.slice qo qn qc))
  have Up_V2 := hid (Rp_2.out.other (w.heap.size + 1) 2 (.slice qo qn qc) XX_2.out (by decide))
  have Uq_V2 := hid (Rq_2.out.other (w.heap.size + 1) 2 (.slice qo qn qc) XX_2.out (by decide))
  have VBel_V2 := hid (HB_2.out.setCell (p := ⟨w.heap.size + 1, 2, none⟩) (by show w.heap.size ≤ w.heap.size + 1; omega) (.slice qo qn qc))
  rw [← hV] at VR_V2 VX_V2 Up_V2 Uq_V2 VBel_V2
  clear hV
  refine (pcommon_any po qo pn pc qn qc X Y _ Up_V2.out Uq_V2.out (by omega) (by omega) hX0.out hY0.out).mono ?_
  rintro e2 w2 ⟨v2, rfl, ⟨go, gn, gc, rfl, hr2, hfr⟩, hb2⟩
  have XR_3 := hid (VR_V2.out.keep hb2)
  have XX_3 := hid (VX_V2.out.keep hb2)
  have Rp_3 := hid (Up_V2.out.below hb2)
  have Rq_3 := hid (Uq_V2.out.below hb2)
  have HB_3 : Hid (Below w.heap.size w w2) := VBel_V2.out.trans (hb2.mono VBel_V2.out.size)
  clear ltR cR0 zR0 cR1 zR1 cR2 zR2 ltX cX0 zX0 cX1 zX1 cX2 zX2
  have ltR := XR_3.out.lt
  have cR0 := XR_3.out.cell 0 _ rfl
  have zR0 := XR_3.out.frozen 0
  have cR1 := XR_3.out.cell 1 _ rfl
  have zR1 := XR_3.out.frozen 1
  have cR2 := XR_3.out.cell 2 _ rfl
  have zR2 := XR_3.out.frozen 2
  have ltX := XX_3.out.lt
  have cX0 := XX_3.out.cell 0 _ rfl
  have zX0 := XX_3.out.frozen 0
  have cX1 := XX_3.out.cell 1 _ rfl
  have zX1 := XX_3.out.frozen 1
  have cX2 := XX_3.out.cell 2 _ rfl
  have zX2 := XX_3.out.frozen 2
  have Rg_3 := hid hr2
  have leng := hr2.len
  clear hb2 hr2
  have hgn : gn = 1 := by have := hlen.out; omega
  have hgne := limbs_not_one hone.out (by omega)
  subst hgn
  obtain ⟨gb, goff, rfl, hglt⟩ := Rg_3.out.head (by omega)
  have hgw : w.heap.size ≠ gb := by
    have h8 : w.heap.size < V2.heap.size := VR_V2.out.lt
    have h9 : V2.heap.size ≤ gb := hfr.2 _ rfl
    omega
  have gc0 := Rg_3.out.cell gb goff rfl 0 (by omega)
  rw [Nat.add_zero] at gc0
  have hgb : (lm (limbs (Nat.gcd X Y)) 0 == 1) = false := by rw [beq_eq_false_iff_ne]; exact hgne
  clear hgne
  go_wp2_with fail
  go_region
  go_wp2
  have P0 := XR_3.out
  have Z := (P0.put3 (.bool true) (.slice po pn pc) (.slice qo qn qc)).drew
  have z0 := Z.cell 0 _ rfl
  have z1 := Z.cell 1 _ rfl
  have z2 := Z.cell 2 _ rfl
  unfold wput3 at z0 z1 z2
  have BB := (below_put3 HB_3.out (Nat.le_refl _) (.bool true) (.slice po pn pc) (.slice qo qn qc)).drew
  exact bodyPost_ret (v := .tuple #[.agg #[.bool true, .slice po pn pc, .slice qo qn qc], .bool false]) (by simp [results, Tryd.results93, go_sem, z0, z1, z2]) rfl ⟨_, _, _, _, _, _, _, rfl, BB⟩

end Go.Proofs.YtigokanoflkinaaDoor
