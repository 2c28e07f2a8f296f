/- RefN, RefO, RefP, RefQ, RefR, joined. -/
import Derived.Test.YtigokanoflkinaaDoorRefTxt
import Derived.Test.YtigokanoflkinaaDoorWEx
import Derived.Test.YtigokanoflkinaaDoorWRat
import Derived.Deep.RegionHeld3
import Derived.Test.YtigokanoflkinaaDoorWFloor
/- portionref.Read: of any text. (Laid by mkrefn.py.) -/
namespace Go.Proofs.YtigokanoflkinaaDoor
set_option linter.unusedSimpArgs false
set_option linter.unusedVariables false
open Go.RowKit Por

/-- what portionref.Read answers -/
def PReadEnd (w w' : World) (e : Ending) (o : Option Rat) : Prop :=
  match o with
  | none => ∃ nb na nn nc oa on oc, e = .returned (.tuple #[.agg #[.bool nb, .slice na nn nc, .slice oa on oc], .bool false]) ∧ Below w.heap.size w w'
  | some q => ∃ v, e = .returned (.tuple #[v, .bool true]) ∧ PNv w' v (negB q) q.num.natAbs q.den ∧ Below w.heap.size w w'

theorem whole_zero {l : List UInt8} (h : wholeB l = true) (hd : dv l = 0) : l = [48] := by
  have := dec_dv l h
  rw [hd, dec_small (by omega)] at this
  exact this.symm
theorem whole_uno {l : List UInt8} (h : wholeB l = true) (hd : dv l = 1) : l = [49] := by
  have := dec_dv l h
  rw [hd, dec_small (by omega)] at this
  exact this.symm
theorem beqT {a b : List UInt8} (h : a = b) : (a == b) = true := beq_iff_eq.2 h
theorem beqF {a b : List UInt8} (h : ¬ a = b) : (a == b) = false := beq_eq_false_iff_ne.2 h
/-- a text that opens with a minus is not 0 -/
theorem minus_not (s : ByteArray) (h0 : 0 < s.size) (hm : ((s[0].toNat : Int) == 45) = true) : ¬ s.toList = [48] := by
  intro hc
  rw [ByteArray.toList_eq] at hc
  have hh : s.data.toList.head? = some s[0] := by
    rw [List.head?_eq_getElem?, List.getElem?_eq_getElem (by simpa using h0)]; rfl
  rw [hc] at hh
  have h1 : s[0] = 48 := (Option.some.inj hh).symm
  rw [h1] at hm
  revert hm
  decide
theorem slash_not (t : ByteArray) (K : Nat) (hK : slashAt t.data.toList = K) (hlt : K < t.size) : ¬ t.toList = [48] := by
  intro hc
  rw [ByteArray.toList_eq] at hc
  have htl : t.data.toList.length = t.size := (by simp)
  rw [hc] at hK htl
  have h1 : slashAt [48] = 1 := by decide
  have h2 : ([48] : List UInt8).length = 1 := rfl
  omega
theorem low_zero (Y : Nat) : lowB 0 Y = false := by
  unfold lowB
  rw [Nat.gcd_zero_left]
  by_cases h : Y = 1
  · subst h; rfl
  · rw [beq_eq_false_iff_ne.2 h, Bool.and_false]
theorem low_le {X Y : Nat} (h : Y ≤ 1) : lowB X Y = false := by unfold lowB; rw [decide_eq_false (by omega)]; rfl

set_option maxHeartbeats 2000000 in
set_option maxRecDepth 20000 in
theorem pread_empty (s : ByteArray) (w : World) (h0 : s.size = 0) :
    Calls Tryd.prog 93 #[.string s] w fun e w' => ∃ nb na nn nc oa on oc, e = .returned (.tuple #[.agg #[.bool nb, .slice na nn nc, .slice oa on oc], .bool false]) ∧ Below w.heap.size w w' := by
  obtain ⟨c1, c2, c5⟩ := boxes2 w #[.bool false, .slice none 0 0, .slice none 0 0] #[.bool false, .slice none 0 0, .slice none 0 0] 82 82
  have HB := hid c5
  clear c1 c2 c5
  have hne : ((s.size : Int) == 0) = true := by rw [beq_iff_eq]; omega
  go_enter Tryd.func93, Tryd.ntmps93
  go_wp2
  exact bodyPost_ret (v := .tuple #[.agg #[.bool false, .slice none 0 0, .slice none 0 0], .bool false]) (by simp [results, Tryd.results93, go_sem]) rfl ⟨_, _, _, _, _, _, _, rfl, HB.out⟩

set_option maxHeartbeats 2000000 in
set_option maxRecDepth 20000 in
theorem pread_long (s : ByteArray) (w : World) (hs : 300 < s.size) (hm : s.size ≤ maxLen) :
    Calls Tryd.prog 93 #[.string s] w fun e w' => ∃ nb na nn nc oa on oc, e = .returned (.tuple #[.agg #[.bool nb, .slice na nn nc, .slice oa on oc], .bool false]) ∧ Below w.heap.size w w' := by
  obtain ⟨c1, c2, c5⟩ := boxes2 w #[.bool false, .slice none 0 0, .slice none 0 0] #[.bool false, .slice none 0 0, .slice none 0 0] 82 82
  have HB := hid c5
  clear c1 c2 c5
  unfold maxLen at hm
  have hne : ((s.size : Int) == 0) = false := by rw [beq_eq_false_iff_ne]; omega
  have hs3 : (300 : Int) < (s.size : Int) := by omega
  go_enter Tryd.func93, Tryd.ntmps93
  go_wp2
  exact bodyPost_ret (v := .tuple #[.agg #[.bool false, .slice none 0 0, .slice none 0 0], .bool false]) (by simp [results, Tryd.results93, go_sem]) rfl ⟨_, _, _, _, _, _, _, rfl, HB.out⟩

theorem preadU_true (s t : ByteArray) (w : World) (ht : t = s.extract 1 s.size) (hts : t.size ≤ 300) (hs : s.size ≤ 300) (h0 : 0 < s.size) (hm : ((s[0].toNat : Int) == 45) = true) :
    Calls Tryd.prog 93 #[.string s] w fun e w' => PReadEnd w w' e (parseU true t.data.toList) := by
  obtain ⟨K, hK⟩ : ∃ K, slashAt t.data.toList = K := ⟨_, rfl⟩
  have htl : t.data.toList.length = t.size := (by simp)
  have hKt : K ≤ t.size := by have := slashAt_le t.data.toList; omega
  unfold parseU
  rw [hK]
  cases hw : wholeB (t.data.toList.take K) with
  | false =>
    rw [if_neg (by simp)]
    by_cases hk : K = t.size
    · exact pread1_true s t K w ht hK hts hKt hs h0 hm (by rw [beq_iff_eq]; omega) (by omega) hw
    · exact pread2_true s t K w ht hK hts hKt hs h0 hm (by rw [beq_eq_false_iff_ne]; omega) (by omega) _ hw rfl
  | true =>
    rw [if_pos rfl]
    obtain ⟨X, hX⟩ : ∃ X, dv (t.data.toList.take K) = X := ⟨_, rfl⟩
    rw [hX]
    by_cases hk : K = t.size
    · have heq : ((K : Int) == (t.size : Int)) = true := by rw [beq_iff_eq]; omega
      by_cases hx : X = 0
      · rw [if_pos (by rw [hx]; rfl)]
        exact pread4_true s t K w ht hK hts hKt hs h0 hm heq (by omega) hw X hX hx (minus_not s h0 hm) (beqF (minus_not s h0 hm))
      · have hzb : zeroB true X = false := by unfold zeroB; rw [beq_eq_false_iff_ne.2 hx, Bool.and_false]
        rw [if_neg (by rw [hzb]; simp), if_pos (by omega)]
        have hc := low_canon true X 1 (by omega) (Nat.gcd_one_right X) hzb
        refine (pread7_true s t K w ht hK hts hKt hs h0 hm heq (by omega) hw X hX hx).mono ?_
        rintro e w' ⟨v, rfl, hv, hb⟩
        exact ⟨v, rfl, by rw [hc.1, hc.2.1, hc.2.2]; exact hv, hb⟩
    · have hne2 : ((K : Int) == (t.size : Int)) = false := by rw [beq_eq_false_iff_ne]; omega
      have hlt : K < t.size := by omega
      rw [if_neg (show ¬ K = t.data.toList.length by omega)]
      cases hv : wholeB (t.data.toList.drop (K + 1)) with
      | false =>
        rw [if_neg (show ¬ (false = true) by simp), ite_self]
        exact pread3_true s t K w ht hK hts hKt hs h0 hm hne2 hlt hw hv
      | true =>
        rw [if_pos rfl]
        obtain ⟨Y, hY⟩ : ∃ Y, dv (t.data.toList.drop (K + 1)) = Y := ⟨_, rfl⟩
        rw [hY]
        have hdl : (t.extract (K + 1) t.size).toList = t.data.toList.drop (K + 1) := by rw [ByteArray.toList_eq]; exact ext_drop t (K + 1)
        by_cases hx : X = 0
        · have e : (if zeroB true X = true then none else if lowB X Y = true then some (mkRat (sg true X) Y) else none) = (none : Option Rat) := by
            rw [hx, low_zero, if_neg (show ¬ (false = true) by simp), ite_self]
          rw [e]
          exact pread5_true s t K w ht hK hts hKt hs h0 hm hne2 hlt hw X hX hv Y hY hx (minus_not s h0 hm) (beqF (minus_not s h0 hm))
        · have hzb : zeroB true X = false := by unfold zeroB; rw [beq_eq_false_iff_ne.2 hx, Bool.and_false]
          rw [if_neg (by rw [hzb]; simp)]
          by_cases d0 : t.data.toList.drop (K + 1) = [48]
          · have hy : Y = 0 := by rw [← hY, d0]; rfl
            rw [if_neg (by rw [low_le (by omega)]; simp)]
            exact pread8_true s t K w ht hK hts hKt hs h0 hm hne2 hlt hw X hX hv Y hY hx (by rw [hdl, d0]) (beqT (by rw [hdl, d0]))
          · have d0' : ¬ (t.extract (K + 1) t.size).toList = [48] := by rw [hdl]; exact d0
            by_cases d1 : t.data.toList.drop (K + 1) = [49]
            · have hy : Y = 1 := by rw [← hY, d1]; rfl
              rw [if_neg (by rw [low_le (by omega)]; simp)]
              exact pread9_true s t K w ht hK hts hKt hs h0 hm hne2 hlt hw X hX hv Y hY hx d0' (beqF d0') (by rw [hdl, d1]) (beqT (by rw [hdl, d1]))
            · have d1' : ¬ (t.extract (K + 1) t.size).toList = [49] := by rw [hdl]; exact d1
              have hy0 : Y ≠ 0 := fun h => d0 (whole_zero hv (by omega))
              have hy1 : Y ≠ 1 := fun h => d1 (whole_uno hv (by omega))
              by_cases hg : Nat.gcd X Y = 1
              · rw [if_pos (by unfold lowB; rw [decide_eq_true (by omega), hg]; rfl)]
                have hc := low_canon true X Y hy0 hg hzb
                refine (pread_one_true s t K w ht hK hts hKt hs h0 hm hne2 hlt hw X hX hv Y hY d0' (beqF d0') d1' (beqF d1') hx hy0 hg).mono ?_
                rintro e w' ⟨v, rfl, hv, hb⟩
                exact ⟨v, rfl, by rw [hc.1, hc.2.1, hc.2.2]; exact hv, hb⟩
              · rw [if_neg (by unfold lowB; rw [beq_eq_false_iff_ne.2 hg, Bool.and_false]; simp)]
                by_cases hl : (limbs (Nat.gcd X Y)).length = 1
                · exact pread_short_true s t K w ht hK hts hKt hs h0 hm hne2 hlt hw X hX hv Y hY d0' (beqF d0') d1' (beqF d1') hx hy0 hg hl
                · exact pread_long_true s t K w ht hK hts hKt hs h0 hm hne2 hlt hw X hX hv Y hY d0' (beqF d0') d1' (beqF d1') hx hy0 hl

theorem preadU_false (t : ByteArray) (w : World) (hts : t.size ≤ 300) (h0 : 0 < t.size) (hm : ((t[0].toNat : Int) == 45) = false) :
    Calls Tryd.prog 93 #[.string t] w fun e w' => PReadEnd w w' e (parseU false t.data.toList) := by
  obtain ⟨K, hK⟩ : ∃ K, slashAt t.data.toList = K := ⟨_, rfl⟩
  have htl : t.data.toList.length = t.size := (by simp)
  have hKt : K ≤ t.size := by have := slashAt_le t.data.toList; omega
  unfold parseU
  rw [hK]
  cases hw : wholeB (t.data.toList.take K) with
  | false =>
    rw [if_neg (by simp)]
    by_cases hk : K = t.size
    · exact pread1_false t K w hK hts hKt h0 hm (by rw [beq_iff_eq]; omega) (by omega) hw
    · exact pread2_false t K w hK hts hKt h0 hm (by rw [beq_eq_false_iff_ne]; omega) (by omega) _ hw rfl
  | true =>
    rw [if_pos rfl]
    obtain ⟨X, hX⟩ : ∃ X, dv (t.data.toList.take K) = X := ⟨_, rfl⟩
    rw [hX]
    by_cases hk : K = t.size
    · have heq : ((K : Int) == (t.size : Int)) = true := by rw [beq_iff_eq]; omega
      by_cases hx : X = 0
      · rw [if_neg (by simp [zeroB]), if_pos (by omega)]
        have h48 : t.toList = [48] := by
          rw [ByteArray.toList_eq]
          rw [hk, ← htl, List.take_length] at hw hX
          exact whole_zero hw (by omega)
        have hc := low_canon false X 1 (by omega) (Nat.gcd_one_right X) rfl
        refine (pread6_false t K w hK hts hKt h0 hm heq (by omega) hw X hX hx h48 (beqT h48)).mono ?_
        rintro e w' ⟨v, rfl, hv, hb⟩
        exact ⟨v, rfl, by rw [hc.1, hc.2.1, hc.2.2]; exact hv, hb⟩
      · have hzb : zeroB false X = false := by unfold zeroB; rw [beq_eq_false_iff_ne.2 hx, Bool.and_false]
        rw [if_neg (by rw [hzb]; simp), if_pos (by omega)]
        have hc := low_canon false X 1 (by omega) (Nat.gcd_one_right X) hzb
        refine (pread7_false t K w hK hts hKt h0 hm heq (by omega) hw X hX hx).mono ?_
        rintro e w' ⟨v, rfl, hv, hb⟩
        exact ⟨v, rfl, by rw [hc.1, hc.2.1, hc.2.2]; exact hv, hb⟩
    · have hne2 : ((K : Int) == (t.size : Int)) = false := by rw [beq_eq_false_iff_ne]; omega
      have hlt : K < t.size := by omega
      rw [if_neg (show ¬ K = t.data.toList.length by omega)]
      cases hv : wholeB (t.data.toList.drop (K + 1)) with
      | false =>
        rw [if_neg (show ¬ (false = true) by simp), ite_self]
        exact pread3_false t K w hK hts hKt h0 hm hne2 hlt hw hv
      | true =>
        rw [if_pos rfl]
        obtain ⟨Y, hY⟩ : ∃ Y, dv (t.data.toList.drop (K + 1)) = Y := ⟨_, rfl⟩
        rw [hY]
        have hdl : (t.extract (K + 1) t.size).toList = t.data.toList.drop (K + 1) := by rw [ByteArray.toList_eq]; exact ext_drop t (K + 1)
        by_cases hx : X = 0
        · have e : (if zeroB false X = true then none else if lowB X Y = true then some (mkRat (sg false X) Y) else none) = (none : Option Rat) := by
            rw [hx, low_zero, if_neg (show ¬ (false = true) by simp), ite_self]
          rw [e]
          exact pread5_false t K w hK hts hKt h0 hm hne2 hlt hw X hX hv Y hY hx (slash_not t K hK hlt) (beqF (slash_not t K hK hlt))
        · have hzb : zeroB false X = false := by unfold zeroB; rw [beq_eq_false_iff_ne.2 hx, Bool.and_false]
          rw [if_neg (by rw [hzb]; simp)]
          by_cases d0 : t.data.toList.drop (K + 1) = [48]
          · have hy : Y = 0 := by rw [← hY, d0]; rfl
            rw [if_neg (by rw [low_le (by omega)]; simp)]
            exact pread8_false t K w hK hts hKt h0 hm hne2 hlt hw X hX hv Y hY hx (by rw [hdl, d0]) (beqT (by rw [hdl, d0]))
          · have d0' : ¬ (t.extract (K + 1) t.size).toList = [48] := by rw [hdl]; exact d0
            by_cases d1 : t.data.toList.drop (K + 1) = [49]
            · have hy : Y = 1 := by rw [← hY, d1]; rfl
              rw [if_neg (by rw [low_le (by omega)]; simp)]
              exact pread9_false t K w hK hts hKt h0 hm hne2 hlt hw X hX hv Y hY hx d0' (beqF d0') (by rw [hdl, d1]) (beqT (by rw [hdl, d1]))
            · have d1' : ¬ (t.extract (K + 1) t.size).toList = [49] := by rw [hdl]; exact d1
              have hy0 : Y ≠ 0 := fun h => d0 (whole_zero hv (by omega))
              have hy1 : Y ≠ 1 := fun h => d1 (whole_uno hv (by omega))
              by_cases hg : Nat.gcd X Y = 1
              · rw [if_pos (by unfold lowB; rw [decide_eq_true (by omega), hg]; rfl)]
                have hc := low_canon false X Y hy0 hg hzb
                refine (pread_one_false t K w hK hts hKt h0 hm hne2 hlt hw X hX hv Y hY d0' (beqF d0') d1' (beqF d1') hx hy0 hg).mono ?_
                rintro e w' ⟨v, rfl, hv, hb⟩
                exact ⟨v, rfl, by rw [hc.1, hc.2.1, hc.2.2]; exact hv, hb⟩
              · rw [if_neg (by unfold lowB; rw [beq_eq_false_iff_ne.2 hg, Bool.and_false]; simp)]
                by_cases hl : (limbs (Nat.gcd X Y)).length = 1
                · exact pread_short_false t K w hK hts hKt h0 hm hne2 hlt hw X hX hv Y hY d0' (beqF d0') d1' (beqF d1') hx hy0 hg hl
                · exact pread_long_false t K w hK hts hKt h0 hm hne2 hlt hw X hX hv Y hY d0' (beqF d0') d1' (beqF d1') hx hy0 hl

theorem pread_any (s : ByteArray) (w : World) (hmax : s.size ≤ maxLen) :
    Calls Tryd.prog 93 #[.string s] w fun e w' => PReadEnd w w' e (readL s.data.toList) := by
  have hsl : s.data.toList.length = s.size := (by simp)
  unfold readL
  by_cases hs : s.size ≤ 300
  · rw [if_pos (by omega)]
    by_cases h0 : s.size = 0
    · have e : s.data.toList = [] := List.eq_nil_of_length_eq_zero (by omega)
      rw [e]
      exact pread_empty s w h0
    · have hp : 0 < s.size := by omega
      have hh : s.data.toList.head? = some s[0] := by
        rw [List.head?_eq_getElem?, List.getElem?_eq_getElem (by simpa using hp)]; rfl
      unfold parseL
      rw [hh]
      by_cases hm : s[0] = 45
      · rw [if_pos (by rw [hm])]
        have := preadU_true s (s.extract 1 s.size) w rfl (by rw [ByteArray.size_extract]; omega) hs hp (by rw [hm]; rfl)
        rwa [ext_tail] at this
      · rw [if_neg (by intro hc; exact hm (Option.some.inj hc))]
        exact preadU_false s w hs hp (by
          rw [beq_eq_false_iff_ne]
          intro hc
          apply hm
          apply UInt8.toNat_inj.1
          have e : (45 : UInt8).toNat = 45 := rfl
          omega)
  · rw [if_neg (by omega)]
    exact pread_long s w (by omega) hmax

theorem pread_yes (s : ByteArray) (w : World) (q : Rat) (hq : readL s.data.toList = some q) :
    Calls Tryd.prog 93 #[.string s] w fun e w' => ∃ v, e = .returned (.tuple #[v, .bool true]) ∧ PNv w' v (negB q) q.num.natAbs q.den ∧ Below w.heap.size w w' := by
  have h := pread_any s w (Nat.le_trans (readL_len hq).1 (by unfold maxLen; omega))
  rw [hq] at h
  exact h
theorem pread_no (s : ByteArray) (w : World) (hmax : s.size ≤ maxLen) (hq : readL s.data.toList = none) :
    Calls Tryd.prog 93 #[.string s] w fun e w' => ∃ nb na nn nc oa on oc, e = .returned (.tuple #[.agg #[.bool nb, .slice na nn nc, .slice oa on oc], .bool false]) ∧ Below w.heap.size w w' := by
  have h := pread_any s w hmax
  rw [hq] at h
  exact h
end Go.Proofs.YtigokanoflkinaaDoor

/- portionref.two, Check: of any texts. (Laid by mkrefo.py.) -/
namespace Go.Proofs.YtigokanoflkinaaDoor
set_option linter.unusedSimpArgs false
set_option linter.unusedVariables false
open Go.RowKit Por
end Go.Proofs.YtigokanoflkinaaDoor

/- portionref.Add, Subtract, order, Compare: of any texts that are fractions, and of others. (Laid by mkrefp.py.) -/
namespace Go.Proofs.YtigokanoflkinaaDoor
set_option linter.unusedSimpArgs false
set_option linter.unusedVariables false
open Go.RowKit Por

theorem sg_not (m : Bool) (x : Nat) : sg (!m) x = -sg m x := by cases m <;> simp [sg]
theorem sg_scale (m : Bool) (a b : Nat) : sg m (a * b) = sg m a * b := by cases m <;> simp [sg, Int.neg_mul]
end Go.Proofs.YtigokanoflkinaaDoor

/- portionref.Multiply, Divide: of any two texts that are fractions. (Laid by mkrefp.py.) -/
namespace Go.Proofs.YtigokanoflkinaaDoor
set_option linter.unusedSimpArgs false
set_option linter.unusedVariables false
open Go.RowKit Por
end Go.Proofs.YtigokanoflkinaaDoor

/- portionref.Floor: of any text. (Laid by mkrefp.py.) -/
namespace Go.Proofs.YtigokanoflkinaaDoor
set_option linter.unusedSimpArgs false
set_option linter.unusedVariables false
open Go.RowKit Por
end Go.Proofs.YtigokanoflkinaaDoor
