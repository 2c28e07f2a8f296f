/- RefN, RefO, RefP, RefQ, RefR, joined. -/
import Derived.Test.YtigokanoflkinaaDoorRefTxt
import Derived.Test.YtigokanoflkinaaDoorWEx
import Derived.Test.YtigokanoflkinaaDoorWRat
import Derived.Deep.RegionHeld3
import Derived.Test.YtigokanoflkinaaDoorWFloor
/- portionref.Read: of any text. (Laid by mkrefn.py.) -/
namespace Go.Proofs.YtigokanoflkinaaDoor
set_option linter.unusedSimpArgs false
set_option linter.unusedVariables false
open Go.RowKit Por

/-- what portionref.Read answers -/
def PReadEnd (w w' : World) (e : Ending) (o : Option Rat) : Prop :=
  match o with
  | none => ∃ nb na nn nc oa on oc, e = .returned (.tuple #[.agg #[.bool nb, .slice na nn nc, .slice oa on oc], .bool false]) ∧ Below w.heap.size w w'
  | some q => ∃ v, e = .returned (.tuple #[v, .bool true]) ∧ PNv w' v (negB q) q.num.natAbs q.den ∧ Below w.heap.size w w'

theorem whole_zero {l : List UInt8} (h : wholeB l = true) (hd : dv l = 0) : l = [48] := by
  have := dec_dv l h
  rw [hd, dec_small (by omega)] at this
  exact this.symm
theorem whole_uno {l : List UInt8} (h : wholeB l = true) (hd : dv l = 1) : l = [49] := by
  have := dec_dv l h
  rw [hd, dec_small (by omega)] at this
  exact this.symm
theorem beqT {a b : List UInt8} (h : a = b) : (a == b) = true := beq_iff_eq.2 h
theorem beqF {a b : List UInt8} (h : ¬ a = b) : (a == b) = false := beq_eq_false_iff_ne.2 h
/-- a text that opens with a minus is not 0 -/
theorem minus_not (s : ByteArray) (h0 : 0 < s.size) (hm : ((s[0].toNat : Int) == 45) = true) : ¬ s.toList = [48] := by
  intro hc
  rw [ByteArray.toList_eq] at hc
  have hh : s.data.toList.head? = some s[0] := by
    rw [List.head?_eq_getElem?, List.getElem?_eq_getElem (by simpa using h0)]; rfl
  rw [hc] at hh
  have h1 : s[0] = 48 := (Option.some.inj hh).symm
  rw [h1] at hm
  revert hm
  decide
theorem slash_not (t : ByteArray) (K : Nat) (hK : slashAt t.data.toList = K) (hlt : K < t.size) : ¬ t.toList = [48] := by
  intro hc
  rw [ByteArray.toList_eq] at hc
  have htl : t.data.toList.length = t.size := (by simp)
  rw [hc] at hK htl
  have h1 : slashAt [48] = 1 := by decide
  have h2 : ([48] : List UInt8).length = 1 := rfl
  omega
theorem low_zero (Y : Nat) : lowB 0 Y = false := by
  unfold lowB
  rw [Nat.gcd_zero_left]
  by_cases h : Y = 1
  · subst h; rfl
  · rw [beq_eq_false_iff_ne.2 h, Bool.and_false]
theorem low_le {X Y : Nat} (h : Y ≤ 1) : lowB X Y = false := by unfold lowB; rw [decide_eq_false (by omega)]; rfl

set_option maxHeartbeats 2000000 in
set_option maxRecDepth 20000 in
theorem pread_empty (s : ByteArray) (w : World) (h0 : s.size = 0) :
    Calls Tryd.prog 93 #[.string s] w fun e w' => ∃ nb na nn nc oa on oc, e = .returned (.tuple #[.agg #[.bool nb, .slice na nn nc, .slice oa on oc], .bool false]) ∧ Below w.heap.size w w' := by
  obtain ⟨c1, c2, c5⟩ := boxes2 w #[.bool false, .slice none 0 0, .slice none 0 0] #[.bool false, .slice none 0 0, .slice none 0 0] 82 82
  have HB := hid c5
  clear c1 c2 c5
  have hne : ((s.size : Int) == 0) = true := by rw [beq_iff_eq]; omega
  go_enter Tryd.func93, Tryd.ntmps93
  go_wp2
  exact bodyPost_ret (v := .tuple #[.agg #[.bool false, .slice none 0 0, .slice none 0 0], .bool false]) (by simp [results, Tryd.results93, go_sem]) rfl ⟨_, _, _, _, _, _, _, rfl, HB.out⟩

set_option maxHeartbeats 2000000 in
set_option maxRecDepth 20000 in
theorem pread_long (s : ByteArray) (w : World) (hs : 300 < s.size) (hm : s.size ≤ maxLen) :
    Calls Tryd.prog 93 #[.string s] w fun e w' => ∃ nb na nn nc oa on oc, e = .returned (.tuple #[.agg #[.bool nb, .slice na nn nc, .slice oa on oc], .bool false]) ∧ Below w.heap.size w w' := by
  obtain ⟨c1, c2, c5⟩ := boxes2 w #[.bool false, .slice none 0 0, .slice none 0 0] #[.bool false, .slice none 0 0, .slice none 0 0] 82 82
  have HB := hid c5
  clear c1 c2 c5
  unfold maxLen at hm
  have hne : ((s.size : Int) == 0) = false := by rw [beq_eq_false_iff_ne]; omega
  have hs3 : (300 : Int) < (s.size : Int) := by omega
  go_enter Tryd.func93, Tryd.ntmps93
  go_wp2
  exact bodyPost_ret (v := .tuple #[.agg #[.bool false, .slice none 0 0, .slice none 0 0], .bool false]) (by simp [results, Tryd.results93, go_sem]) rfl ⟨_, _, _, _, _, _, _, rfl, HB.out⟩

theorem preadU_true (s t : ByteArray) (w : World) (ht : t = s.extract 1 s.size) (hts : t.size ≤ 300) (hs : s.size ≤ 300) (h0 : 0 < s.size) (hm : ((s[0].toNat : Int) == 45) = true) :
    Calls Tryd.prog 93 #[.string s] w fun e w' => PReadEnd w w' e (parseU true t.data.toList) := by
  obtain ⟨K, hK⟩ : ∃ K, slashAt t.data.toList = K := ⟨_, rfl⟩
  have htl : t.data.toList.length = t.size := (by simp)
  have hKt : K ≤ t.size := by have := slashAt_le t.data.toList; omega
  unfold parseU
  rw [hK]
  cases hw : wholeB (t.data.toList.take K) with
  | false =>
    rw [if_neg (by simp)]
    by_cases hk : K = t.size
    · exact pread1_true s t K w ht hK hts hKt hs h0 hm (by rw [beq_iff_eq]; omega) (by omega) hw
    · exact pread2_true s t K w ht hK hts hKt hs h0 hm (by rw [beq_eq_false_iff_ne]; omega) (by omega) _ hw rfl
  | true =>
    rw [if_pos rfl]
    obtain ⟨X, hX⟩ : ∃ X, dv (t.data.toList.take K) = X := ⟨_, rfl⟩
    rw [hX]
    by_cases hk : K = t.size
    · have heq : ((K : Int) == (t.size : Int)) = true := by rw [beq_iff_eq]; omega
      by_cases hx : X = 0
      · rw [if_pos (by rw [hx]; rfl)]
        exact pread4_true s t K w ht hK hts hKt hs h0 hm heq (by omega) hw X hX hx (minus_not s h0 hm) (beqF (minus_not s h0 hm))
      · have hzb : zeroB true X = false := by unfold zeroB; rw [beq_eq_false_iff_ne.2 hx, Bool.and_false]
        rw [if_neg (by rw [hzb]; simp), if_pos (by omega)]
        have hc := low_canon true X 1 (by omega) (Nat.gcd_one_right X) hzb
        refine (pread7_true s t K w ht hK hts hKt hs h0 hm heq (by omega) hw X hX hx).mono ?_
        rintro e w' ⟨v, rfl, hv, hb⟩
        exact ⟨v, rfl, by rw [hc.1, hc.2.1, hc.2.2]; exact hv, hb⟩
    · have hne2 : ((K : Int) == (t.size : Int)) = false := by rw [beq_eq_false_iff_ne]; omega
      have hlt : K < t.size := by omega
      rw [if_neg (show ¬ K = t.data.toList.length by omega)]
      cases hv : wholeB (t.data.toList.drop (K + 1)) with
      | false =>
        rw [if_neg (show ¬ (false = true) by simp), ite_self]
        exact pread3_true s t K w ht hK hts hKt hs h0 hm hne2 hlt hw hv
      | true =>
        rw [if_pos rfl]
        obtain ⟨Y, hY⟩ : ∃ Y, dv (t.data.toList.drop (K + 1)) = Y := ⟨_, rfl⟩
        rw [hY]
        have hdl : (t.extract (K + 1) t.size).toList = t.data.toList.drop (K + 1) := by rw [ByteArray.toList_eq]; exact ext_drop t (K + 1)
        by_cases hx : X = 0
        · have e : (if zeroB true X = true then none else if lowB X Y = true then some (mkRat (sg true X) Y) else none) = (none : Option Rat) := by
            rw [hx, low_zero, if_neg (show ¬ (false = true) by simp), ite_self]
          rw [e]
          exact pread5_true s t K w ht hK hts hKt hs h0 hm hne2 hlt hw X hX hv Y hY hx (minus_not s h0 hm) (beqF (minus_not s h0 hm))
        · have hzb : zeroB true X = false := by unfold zeroB; rw [beq_eq_false_iff_ne.2 hx, Bool.and_false]
          rw [if_neg (by rw [hzb]; simp)]
          by_cases d0 : t.data.toList.drop (K + 1) = [48]
          · have hy : Y = 0 := by rw [← hY, d0]; rfl
            rw [if_neg (by rw [low_le (by omega)]; simp)]
            exact pread8_true s t K w ht hK hts hKt hs h0 hm hne2 hlt hw X hX hv Y hY hx (by rw [hdl, d0]) (beqT (by rw [hdl, d0]))
          · have d0' : ¬ (t.extract (K + 1) t.size).toList = [48] := by rw [hdl]; exact d0
            by_cases d1 : t.data.toList.drop (K + 1) = [49]
            · have hy : Y = 1 := by rw [← hY, d1]; rfl
              rw [if_neg (by rw [low_le (by omega)]; simp)]
              exact pread9_true s t K w ht hK hts hKt hs h0 hm hne2 hlt hw X hX hv Y hY hx d0' (beqF d0') (by rw [hdl, d1]) (beqT (by rw [hdl, d1]))
            · have d1' : ¬ (t.extract (K + 1) t.size).toList = [49] := by rw [hdl]; exact d1
              have hy0 : Y ≠ 0 := fun h => d0 (whole_zero hv (by omega))
              have hy1 : Y ≠ 1 := fun h => d1 (whole_uno hv (by omega))
              by_cases hg : Nat.gcd X Y = 1
              · rw [if_pos (by unfold lowB; rw [decide_eq_true (by omega), hg]; rfl)]
                have hc := low_canon true X Y hy0 hg hzb
                refine (pread_one_true s t K w ht hK hts hKt hs h0 hm hne2 hlt hw X hX hv Y hY d0' (beqF d0') d1' (beqF d1') hx hy0 hg).mono ?_
                rintro e w' ⟨v, rfl, hv, hb⟩
                exact ⟨v, rfl, by rw [hc.1, hc.2.1, hc.2.2]; exact hv, hb⟩
              · rw [if_neg (by unfold lowB; rw [beq_eq_false_iff_ne.2 hg, Bool.and_false]; simp)]
                by_cases hl : (limbs (Nat.gcd X Y)).length = 1
                · exact pread_short_true s t K w ht hK hts hKt hs h0 hm hne2 hlt hw X hX hv Y hY d0' (beqF d0') d1' (beqF d1') hx hy0 hg hl
                · exact pread_long_true s t K w ht hK hts hKt hs h0 hm hne2 hlt hw X hX hv Y hY d0' (beqF d0') d1' (beqF d1') hx hy0 hl

theorem preadU_false (t : ByteArray) (w : World) (hts : t.size ≤ 300) (h0 : 0 < t.size) (hm : ((t[0].toNat : Int) == 45) = false) :
    Calls Tryd.prog 93 #[.string t] w fun e w' => PReadEnd w w' e (parseU false t.data.toList) := by
  obtain ⟨K, hK⟩ : ∃ K, slashAt t.data.toList = K := ⟨_, rfl⟩
  have htl : t.data.toList.length = t.size := (by simp)
  have hKt : K ≤ t.size := by have := slashAt_le t.data.toList; omega
  unfold parseU
  rw [hK]
  cases hw : wholeB (t.data.toList.take K) with
  | false =>
    rw [if_neg (by simp)]
    by_cases hk : K = t.size
    · exact pread1_false t K w hK hts hKt h0 hm (by rw [beq_iff_eq]; omega) (by omega) hw
    · exact pread2_false t K w hK hts hKt h0 hm (by rw [beq_eq_false_iff_ne]; omega) (by omega) _ hw rfl
  | true =>
    rw [if_pos rfl]
    obtain ⟨X, hX⟩ : ∃ X, dv (t.data.toList.take K) = X := ⟨_, rfl⟩
    rw [hX]
    by_cases hk : K = t.size
    · have heq : ((K : Int) == (t.size : Int)) = true := by rw [beq_iff_eq]; omega
      by_cases hx : X = 0
      · rw [if_neg (by simp [zeroB]), if_pos (by omega)]
        have h48 : t.toList = [48] := by
          rw [ByteArray.toList_eq]
          rw [hk, ← htl, List.take_length] at hw hX
          exact whole_zero hw (by omega)
        have hc := low_canon false X 1 (by omega) (Nat.gcd_one_right X) rfl
        refine (pread6_false t K w hK hts hKt h0 hm heq (by omega) hw X hX hx h48 (beqT h48)).mono ?_
        rintro e w' ⟨v, rfl, hv, hb⟩
        exact ⟨v, rfl, by rw [hc.1, hc.2.1, hc.2.2]; exact hv, hb⟩
      · have hzb : zeroB false X = false := by unfold zeroB; rw [beq_eq_false_iff_ne.2 hx, Bool.and_false]
        rw [if_neg (by rw [hzb]; simp), if_pos (by omega)]
        have hc := low_canon false X 1 (by omega) (Nat.gcd_one_right X) hzb
        refine (pread7_false t K w hK hts hKt h0 hm heq (by omega) hw X hX hx).mono ?_
        rintro e w' ⟨v, rfl, hv, hb⟩
        exact ⟨v, rfl, by rw [hc.1, hc.2.1, hc.2.2]; exact hv, hb⟩
    · have hne2 : ((K : Int) == (t.size : Int)) = false := by rw [beq_eq_false_iff_ne]; omega
      have hlt : K < t.size := by omega
      rw [if_neg (show ¬ K = t.data.toList.length by omega)]
      cases hv : wholeB (t.data.toList.drop (K + 1)) with
      | false =>
        rw [if_neg (show ¬ (false = true) by simp), ite_self]
        exact pread3_false t K w hK hts hKt h0 hm hne2 hlt hw hv
      | true =>
        rw [if_pos rfl]
        obtain ⟨Y, hY⟩ : ∃ Y, dv (t.data.toList.drop (K + 1)) = Y := ⟨_, rfl⟩
        rw [hY]
        have hdl : (t.extract (K + 1) t.size).toList = t.data.toList.drop (K + 1) := by rw [ByteArray.toList_eq]; exact ext_drop t (K + 1)
        by_cases hx : X = 0
        · have e : (if zeroB false X = true then none else if lowB X Y = true then some (mkRat (sg false X) Y) else none) = (none : Option Rat) := by
            rw [hx, low_zero, if_neg (show ¬ (false = true) by simp), ite_self]
          rw [e]
          exact pread5_false t K w hK hts hKt h0 hm hne2 hlt hw X hX hv Y hY hx (slash_not t K hK hlt) (beqF (slash_not t K hK hlt))
        · have hzb : zeroB false X = false := by unfold zeroB; rw [beq_eq_false_iff_ne.2 hx, Bool.and_false]
          rw [if_neg (by rw [hzb]; simp)]
          by_cases d0 : t.data.toList.drop (K + 1) = [48]
          · have hy : Y = 0 := by rw [← hY, d0]; rfl
            rw [if_neg (by rw [low_le (by omega)]; simp)]
            exact pread8_false t K w hK hts hKt h0 hm hne2 hlt hw X hX hv Y hY hx (by rw [hdl, d0]) (beqT (by rw [hdl, d0]))
          · have d0' : ¬ (t.extract (K + 1) t.size).toList = [48] := by rw [hdl]; exact d0
            by_cases d1 : t.data.toList.drop (K + 1) = [49]
            · have hy : Y = 1 := by rw [← hY, d1]; rfl
              rw [if_neg (by rw [low_le (by omega)]; simp)]
              exact pread9_false t K w hK hts hKt h0 hm hne2 hlt hw X hX hv Y hY hx d0' (beqF d0') (by rw [hdl, d1]) (beqT (by rw [hdl, d1]))
            · have d1' : ¬ (t.extract (K + 1) t.size).toList = [49] := by rw [hdl]; exact d1
              have hy0 : Y ≠ 0 := fun h => d0 (whole_zero hv (by omega))
              have hy1 : Y ≠ 1 := fun h => d1 (whole_uno hv (by omega))
              by_cases hg : Nat.gcd X Y = 1
              · rw [if_pos (by unfold lowB; rw [decide_eq_true (by omega), hg]; rfl)]
                have hc := low_canon false X Y hy0 hg hzb
                refine (pread_one_false t K w hK hts hKt h0 hm hne2 hlt hw X hX hv Y hY d0' (beqF d0') d1' (beqF d1') hx hy0 hg).mono ?_
                rintro e w' ⟨v, rfl, hv, hb⟩
                exact ⟨v, rfl, by rw [hc.1, hc.2.1, hc.2.2]; exact hv, hb⟩
              · rw [if_neg (by unfold lowB; rw [beq_eq_false_iff_ne.2 hg, Bool.and_false]; simp)]
                by_cases hl : (limbs (Nat.gcd X Y)).length = 1
                · exact pread_short_false t K w hK hts hKt h0 hm hne2 hlt hw X hX hv Y hY d0' (beqF d0') d1' (beqF d1') hx hy0 hg hl
                · exact pread_long_false t K w hK hts hKt h0 hm hne2 hlt hw X hX hv Y hY d0' (beqF d0') d1' (beqF d1') hx hy0 hl

theorem pread_any (s : ByteArray) (w : World) (hmax : s.size ≤ maxLen) :
    Calls Tryd.prog 93 #[.string s] w fun e w' => PReadEnd w w' e (readL s.data.toList) := by
  have hsl : s.data.toList.length = s.size := (by simp)
  unfold readL
  by_cases hs : s.size ≤ 300
  · rw [if_pos (by omega)]
    by_cases h0 : s.size = 0
    · have e : s.data.toList = [] := List.eq_nil_of_length_eq_zero (by omega)
      rw [e]
      exact pread_empty s w h0
    · have hp : 0 < s.size := by omega
      have hh : s.data.toList.head? = some s[0] := by
        rw [List.head?_eq_getElem?, List.getElem?_eq_getElem (by simpa using hp)]; rfl
      unfold parseL
      rw [hh]
      by_cases hm : s[0] = 45
      · rw [if_pos (by rw [hm])]
        have := preadU_true s (s.extract 1 s.size) w rfl (by rw [ByteArray.size_extract]; omega) hs hp (by rw [hm]; rfl)
        rwa [ext_tail] at this
      · rw [if_neg (by intro hc; exact hm (Option.some.inj hc))]
        exact preadU_false s w hs hp (by
          rw [beq_eq_false_iff_ne]
          intro hc
          apply hm
          apply UInt8.toNat_inj.1
          have e : (45 : UInt8).toNat = 45 := rfl
          omega)
  · rw [if_neg (by omega)]
    exact pread_long s w (by omega) hmax

theorem pread_yes (s : ByteArray) (w : World) (q : Rat) (hq : readL s.data.toList = some q) :
    Calls Tryd.prog 93 #[.string s] w fun e w' => ∃ v, e = .returned (.tuple #[v, .bool true]) ∧ PNv w' v (negB q) q.num.natAbs q.den ∧ Below w.heap.size w w' := by
  have h := pread_any s w (Nat.le_trans (readL_len hq).1 (by unfold maxLen; omega))
  rw [hq] at h
  exact h
theorem pread_no (s : ByteArray) (w : World) (hmax : s.size ≤ maxLen) (hq : readL s.data.toList = none) :
    Calls Tryd.prog 93 #[.string s] w fun e w' => ∃ nb na nn nc oa on oc, e = .returned (.tuple #[.agg #[.bool nb, .slice na nn nc, .slice oa on oc], .bool false]) ∧ Below w.heap.size w w' := by
  have h := pread_any s w hmax
  rw [hq] at h
  exact h
end Go.Proofs.YtigokanoflkinaaDoor

/- portionref.two, Check: of any texts. (Laid by mkrefo.py.) -/
namespace Go.Proofs.YtigokanoflkinaaDoor
set_option linter.unusedSimpArgs false
set_option linter.unusedVariables false
open Go.RowKit Por

theorem pread_some (s : ByteArray) (w : World) (hmax : s.size ≤ maxLen) :
    Calls Tryd.prog 93 #[.string s] w fun e w' => ∃ ok nb na nn nc oa on oc, e = .returned (.tuple #[.agg #[.bool nb, .slice na nn nc, .slice oa on oc], .bool ok]) ∧ Below w.heap.size w w' := by
  refine (pread_any s w hmax).mono ?_
  intro e w' h
  cases hq : readL s.data.toList with
  | none => rw [hq] at h; obtain ⟨nb, na, nn, nc, oa, on, oc, rfl, hb⟩ := h; exact ⟨_, _, _, _, _, _, _, _, rfl, hb⟩
  | some q => rw [hq] at h; obtain ⟨v, rfl, ⟨ao, n, capa, bo, k, capb, rfl, _, _⟩, hb⟩ := h; exact ⟨_, _, _, _, _, _, _, _, rfl, hb⟩

set_option maxHeartbeats 2000000 in
set_option maxRecDepth 20000 in
theorem ptwo_yes (a b : ByteArray) (w : World) (x y : Rat) (hx : Hid (readL a.data.toList = some x)) (hy : Hid (readL b.data.toList = some y)) :
    Calls Tryd.prog 53 #[.string a, .string b] w fun e w' => ∃ u v, e = .returned (.tuple #[u, v, .bool true]) ∧ PNv w' u (negB x) x.num.natAbs x.den ∧ PNv w' v (negB y) y.num.natAbs y.den ∧ Below w.heap.size w w' := by
  obtain ⟨c1, c2, c5⟩ := boxes2 w #[.bool false, .slice none 0 0, .slice none 0 0] #[.bool false, .slice none 0 0, .slice none 0 0] 82 82
  have XR_0 := hid c1
  have XS_0 := hid c2
  have HB_0 := hid c5
  clear c1 c2 c5
  go_enter Tryd.func53, Tryd.ntmps53
  go_wp2_with fail
  refine (pread_yes a _ x hx.out).mono ?_
  rintro e0 w0 ⟨v0, rfl, ⟨fa, fb, fc, fd, fe, ff, rfl, hr0, hs0⟩, hb0⟩
  have XR_1 := hid (XR_0.out.keep hb0)
  have XS_1 := hid (XS_0.out.keep hb0)
  have HB_1 : Hid (Below w.heap.size w w0) := HB_0.out.trans (hb0.mono HB_0.out.size)
  have ltR := XR_1.out.lt
  have cR0 := XR_1.out.cell 0 _ rfl
  have zR0 := XR_1.out.frozen 0
  have cR1 := XR_1.out.cell 1 _ rfl
  have zR1 := XR_1.out.frozen 1
  have cR2 := XR_1.out.cell 2 _ rfl
  have zR2 := XR_1.out.frozen 2
  have ltS := XS_1.out.lt
  have cS0 := XS_1.out.cell 0 _ rfl
  have zS0 := XS_1.out.frozen 0
  have cS1 := XS_1.out.cell 1 _ rfl
  have zS1 := XS_1.out.frozen 1
  have cS2 := XS_1.out.cell 2 _ rfl
  have zS2 := XS_1.out.frozen 2
  have Rf1_1 := hid hr0
  have Rf2_1 := hid hs0
  clear hb0 hr0 hs0
  have YR_1 := hid (bx_past XR_1.out (.cells #[.bool (negB x), .slice fa fb fc, .slice fd fe ff] 82))
  have YS_1 := hid (bx_past XS_1.out (.cells #[.bool (negB x), .slice fa fb fc, .slice fd fe ff] 82))
  have Yf_1 := hid (bx_new w0 #[.bool (negB x), .slice fa fb fc, .slice fd fe ff] 82)
  have Qf1_1 := hid (Rf1_1.out.alloc (.cells #[.bool (negB x), .slice fa fb fc, .slice fd fe ff] 82))
  have Qf2_1 := hid (Rf2_1.out.alloc (.cells #[.bool (negB x), .slice fa fb fc, .slice fd fe ff] 82))
  have HC_1 : Hid (Below w.heap.size w (w0.alloc (.cells #[.bool (negB x), .slice fa fb fc, .slice fd fe ff] 82))) := HB_1.out.alloc HB_1.out.size (.cells #[.bool (negB x), .slice fa fb fc, .slice fd fe ff] 82)
  go_wp2_with fail
  refine (pread_yes b _ y hy.out).mono ?_
  rintro e1 w1 ⟨v1, rfl, ⟨ga, gb, gc, gd, ge, gf, rfl, hr1, hs1⟩, hb1⟩
  have XR_2 := hid (YR_1.out.keep hb1)
  have XS_2 := hid (YS_1.out.keep hb1)
  have Xf_2 := hid (Yf_1.out.keep hb1)
  have Rf1_2 := hid (Qf1_1.out.below hb1)
  have Rf2_2 := hid (Qf2_1.out.below hb1)
  have HB_2 : Hid (Below w.heap.size w w1) := HC_1.out.trans (hb1.mono HC_1.out.size)
  clear ltR cR0 zR0 cR1 zR1 cR2 zR2 ltS cS0 zS0 cS1 zS1 cS2 zS2
  have ltR := XR_2.out.lt
  have cR0 := XR_2.out.cell 0 _ rfl
  have zR0 := XR_2.out.frozen 0
  have cR1 := XR_2.out.cell 1 _ rfl
  have zR1 := XR_2.out.frozen 1
  have cR2 := XR_2.out.cell 2 _ rfl
  have zR2 := XR_2.out.frozen 2
  have ltS := XS_2.out.lt
  have cS0 := XS_2.out.cell 0 _ rfl
  have zS0 := XS_2.out.frozen 0
  have cS1 := XS_2.out.cell 1 _ rfl
  have zS1 := XS_2.out.frozen 1
  have cS2 := XS_2.out.cell 2 _ rfl
  have zS2 := XS_2.out.frozen 2
  have ltf := Xf_2.out.lt
  have cf0 := Xf_2.out.cell 0 _ rfl
  have cf1 := Xf_2.out.cell 1 _ rfl
  have cf2 := Xf_2.out.cell 2 _ rfl
  have Rg1_2 := hid hr1
  have Rg2_2 := hid hs1
  clear hb1 hr1 hs1
  have YR_2 := hid (bx_past XR_2.out (.cells #[.bool (negB y), .slice ga gb gc, .slice gd ge gf] 82))
  have YS_2 := hid (bx_past XS_2.out (.cells #[.bool (negB y), .slice ga gb gc, .slice gd ge gf] 82))
  have Yf_2 := hid (bx_past Xf_2.out (.cells #[.bool (negB y), .slice ga gb gc, .slice gd ge gf] 82))
  have Yg_2 := hid (bx_new w1 #[.bool (negB y), .slice ga gb gc, .slice gd ge gf] 82)
  have Qf1_2 := hid (Rf1_2.out.alloc (.cells #[.bool (negB y), .slice ga gb gc, .slice gd ge gf] 82))
  have Qf2_2 := hid (Rf2_2.out.alloc (.cells #[.bool (negB y), .slice ga gb gc, .slice gd ge gf] 82))
  have Qg1_2 := hid (Rg1_2.out.alloc (.cells #[.bool (negB y), .slice ga gb gc, .slice gd ge gf] 82))
  have Qg2_2 := hid (Rg2_2.out.alloc (.cells #[.bool (negB y), .slice ga gb gc, .slice gd ge gf] 82))
  have HC_2 : Hid (Below w.heap.size w (w1.alloc (.cells #[.bool (negB y), .slice ga gb gc, .slice gd ge gf] 82))) := HB_2.out.alloc HB_2.out.size (.cells #[.bool (negB y), .slice ga gb gc, .slice gd ge gf] 82)
  go_wp2_with fail
  obtain ⟨V, hV⟩ : ∃ V, V = (w1.alloc (.cells #[.bool (negB y), .slice ga gb gc, .slice gd ge gf] 82)) := ⟨_, rfl⟩
  rw [← hV] at YR_2 YS_2 Yf_2 Yg_2 Qf1_2 Qf2_2 Qg1_2 Qg2_2 HC_2 ⊢
  have cR0 := YR_2.out.cell 0 _ rfl
  have cR1 := YR_2.out.cell 1 _ rfl
  have cR2 := YR_2.out.cell 2 _ rfl
  have zR0 := YR_2.out.frozen 0
  have zR1 := YR_2.out.frozen 1
  have zR2 := YR_2.out.frozen 2
  have cS0 := YS_2.out.cell 0 _ rfl
  have cS1 := YS_2.out.cell 1 _ rfl
  have cS2 := YS_2.out.cell 2 _ rfl
  have zS0 := YS_2.out.frozen 0
  have zS1 := YS_2.out.frozen 1
  have zS2 := YS_2.out.frozen 2
  have cf0 := Yf_2.out.cell 0 _ rfl
  have cf1 := Yf_2.out.cell 1 _ rfl
  have cf2 := Yf_2.out.cell 2 _ rfl
  have cg0 := Yg_2.out.cell 0 _ rfl
  have cg1 := Yg_2.out.cell 1 _ rfl
  have cg2 := Yg_2.out.cell 2 _ rfl
  clear hV
  go_region
  go_wp2
  have P1 := YR_2.out.put3 (.bool (negB x)) (.slice fa fb fc) (.slice fd fe ff)
  have P0 := YS_2.out.put3_other (.bool (negB x)) (.slice fa fb fc) (.slice fd fe ff) (by omega : w.heap.size ≠ w.heap.size + 1)
  have P2 := (P0.put3 (.bool (negB y)) (.slice ga gb gc) (.slice gd ge gf)).drew
  have P3 := (P1.put3_other (.bool (negB y)) (.slice ga gb gc) (.slice gd ge gf) (by omega : w.heap.size + 1 ≠ w.heap.size)).drew
  have y0 := P2.cell 0 _ rfl
  have x0 := P3.cell 0 _ rfl
  have y1 := P2.cell 1 _ rfl
  have x1 := P3.cell 1 _ rfl
  have y2 := P2.cell 2 _ rfl
  have x2 := P3.cell 2 _ rfl
  unfold wput3 at x0 x1 x2 y0 y1 y2
  have BB := (below_put3 (below_put3 HC_2.out (Nat.le_refl _) (.bool (negB x)) (.slice fa fb fc) (.slice fd fe ff)) (by omega : w.heap.size ≤ w.heap.size + 1) (.bool (negB y)) (.slice ga gb gc) (.slice gd ge gf)).drew
  refine bodyPost_ret (v := .tuple #[.agg #[.bool (negB x), .slice fa fb fc, .slice fd fe ff], .agg #[.bool (negB y), .slice ga gb gc, .slice gd ge gf], .bool true]) (by simp [results, Tryd.results53, go_sem, x0, x1, x2, y0, y1, y2]) rfl ⟨_, _, rfl, ⟨fa, fb, fc, fd, fe, ff, rfl, ?_, ?_⟩, ⟨ga, gb, gc, gd, ge, gf, rfl, ?_, ?_⟩, BB⟩
  · exact ((Qf1_2.out.put3 YR_2.out (by decide) (.bool (negB x)) (.slice fa fb fc) (.slice fd fe ff)).put3 P0 (by decide) (.bool (negB y)) (.slice ga gb gc) (.slice gd ge gf)).drew
  · exact ((Qf2_2.out.put3 YR_2.out (by decide) (.bool (negB x)) (.slice fa fb fc) (.slice fd fe ff)).put3 P0 (by decide) (.bool (negB y)) (.slice ga gb gc) (.slice gd ge gf)).drew
  · exact ((Qg1_2.out.put3 YR_2.out (by decide) (.bool (negB x)) (.slice fa fb fc) (.slice fd fe ff)).put3 P0 (by decide) (.bool (negB y)) (.slice ga gb gc) (.slice gd ge gf)).drew
  · exact ((Qg2_2.out.put3 YR_2.out (by decide) (.bool (negB x)) (.slice fa fb fc) (.slice fd fe ff)).put3 P0 (by decide) (.bool (negB y)) (.slice ga gb gc) (.slice gd ge gf)).drew

set_option maxHeartbeats 2000000 in
set_option maxRecDepth 20000 in
theorem ptwo_no1 (a b : ByteArray) (w : World) (hma : a.size ≤ maxLen) (hmb : b.size ≤ maxLen) (hq : Hid (readL a.data.toList = none)) :
    Calls Tryd.prog 53 #[.string a, .string b] w fun e w' => ∃ fn fa fb fc fd fe ff gn ga gb gc gd ge gf, e = .returned (.tuple #[.agg #[.bool fn, .slice fa fb fc, .slice fd fe ff], .agg #[.bool gn, .slice ga gb gc, .slice gd ge gf], .bool false]) ∧ Below w.heap.size w w' := by
  obtain ⟨c1, c2, c5⟩ := boxes2 w #[.bool false, .slice none 0 0, .slice none 0 0] #[.bool false, .slice none 0 0, .slice none 0 0] 82 82
  have XR_0 := hid c1
  have XS_0 := hid c2
  have HB_0 := hid c5
  clear c1 c2 c5
  go_enter Tryd.func53, Tryd.ntmps53
  go_wp2_with fail
  refine (pread_no a _ hma hq.out).mono ?_
  rintro e0 w0 ⟨fn, fa, fb, fc, fd, fe, ff, rfl, hb0⟩
  have XR_1 := hid (XR_0.out.keep hb0)
  have XS_1 := hid (XS_0.out.keep hb0)
  have HB_1 : Hid (Below w.heap.size w w0) := HB_0.out.trans (hb0.mono HB_0.out.size)
  have ltR := XR_1.out.lt
  have cR0 := XR_1.out.cell 0 _ rfl
  have zR0 := XR_1.out.frozen 0
  have cR1 := XR_1.out.cell 1 _ rfl
  have zR1 := XR_1.out.frozen 1
  have cR2 := XR_1.out.cell 2 _ rfl
  have zR2 := XR_1.out.frozen 2
  have ltS := XS_1.out.lt
  have cS0 := XS_1.out.cell 0 _ rfl
  have zS0 := XS_1.out.frozen 0
  have cS1 := XS_1.out.cell 1 _ rfl
  have zS1 := XS_1.out.frozen 1
  have cS2 := XS_1.out.cell 2 _ rfl
  have zS2 := XS_1.out.frozen 2
  clear hb0
  have YR_1 := hid (bx_past XR_1.out (.cells #[.bool fn, .slice fa fb fc, .slice fd fe ff] 82))
  have YS_1 := hid (bx_past XS_1.out (.cells #[.bool fn, .slice fa fb fc, .slice fd fe ff] 82))
  have Yf_1 := hid (bx_new w0 #[.bool fn, .slice fa fb fc, .slice fd fe ff] 82)
  have HC_1 : Hid (Below w.heap.size w (w0.alloc (.cells #[.bool fn, .slice fa fb fc, .slice fd fe ff] 82))) := HB_1.out.alloc HB_1.out.size (.cells #[.bool fn, .slice fa fb fc, .slice fd fe ff] 82)
  go_wp2_with fail
  refine (pread_some b _ hmb).mono ?_
  rintro e1 w1 ⟨ok, gn, ga, gb, gc, gd, ge, gf, rfl, hb1⟩
  have XR_2 := hid (YR_1.out.keep hb1)
  have XS_2 := hid (YS_1.out.keep hb1)
  have Xf_2 := hid (Yf_1.out.keep hb1)
  have HB_2 : Hid (Below w.heap.size w w1) := HC_1.out.trans (hb1.mono HC_1.out.size)
  clear ltR cR0 zR0 cR1 zR1 cR2 zR2 ltS cS0 zS0 cS1 zS1 cS2 zS2
  have ltR := XR_2.out.lt
  have cR0 := XR_2.out.cell 0 _ rfl
  have zR0 := XR_2.out.frozen 0
  have cR1 := XR_2.out.cell 1 _ rfl
  have zR1 := XR_2.out.frozen 1
  have cR2 := XR_2.out.cell 2 _ rfl
  have zR2 := XR_2.out.frozen 2
  have ltS := XS_2.out.lt
  have cS0 := XS_2.out.cell 0 _ rfl
  have zS0 := XS_2.out.frozen 0
  have cS1 := XS_2.out.cell 1 _ rfl
  have zS1 := XS_2.out.frozen 1
  have cS2 := XS_2.out.cell 2 _ rfl
  have zS2 := XS_2.out.frozen 2
  have ltf := Xf_2.out.lt
  have cf0 := Xf_2.out.cell 0 _ rfl
  have cf1 := Xf_2.out.cell 1 _ rfl
  have cf2 := Xf_2.out.cell 2 _ rfl
  clear hb1
  have YR_2 := hid (bx_past XR_2.out (.cells #[.bool gn, .slice ga gb gc, .slice gd ge gf] 82))
  have YS_2 := hid (bx_past XS_2.out (.cells #[.bool gn, .slice ga gb gc, .slice gd ge gf] 82))
  have Yf_2 := hid (bx_past Xf_2.out (.cells #[.bool gn, .slice ga gb gc, .slice gd ge gf] 82))
  have Yg_2 := hid (bx_new w1 #[.bool gn, .slice ga gb gc, .slice gd ge gf] 82)
  have HC_2 : Hid (Below w.heap.size w (w1.alloc (.cells #[.bool gn, .slice ga gb gc, .slice gd ge gf] 82))) := HB_2.out.alloc HB_2.out.size (.cells #[.bool gn, .slice ga gb gc, .slice gd ge gf] 82)
  go_wp2_with fail
  obtain ⟨V, hV⟩ : ∃ V, V = (w1.alloc (.cells #[.bool gn, .slice ga gb gc, .slice gd ge gf] 82)) := ⟨_, rfl⟩
  rw [← hV] at YR_2 YS_2 Yf_2 Yg_2 HC_2 ⊢
  have cR0 := YR_2.out.cell 0 _ rfl
  have cR1 := YR_2.out.cell 1 _ rfl
  have cR2 := YR_2.out.cell 2 _ rfl
  have zR0 := YR_2.out.frozen 0
  have zR1 := YR_2.out.frozen 1
  have zR2 := YR_2.out.frozen 2
  have cS0 := YS_2.out.cell 0 _ rfl
  have cS1 := YS_2.out.cell 1 _ rfl
  have cS2 := YS_2.out.cell 2 _ rfl
  have zS0 := YS_2.out.frozen 0
  have zS1 := YS_2.out.frozen 1
  have zS2 := YS_2.out.frozen 2
  have cf0 := Yf_2.out.cell 0 _ rfl
  have cf1 := Yf_2.out.cell 1 _ rfl
  have cf2 := Yf_2.out.cell 2 _ rfl
  have cg0 := Yg_2.out.cell 0 _ rfl
  have cg1 := Yg_2.out.cell 1 _ rfl
  have cg2 := Yg_2.out.cell 2 _ rfl
  clear hV
  go_region
  go_wp2
  have P1 := YR_2.out.put3 (.bool fn) (.slice fa fb fc) (.slice fd fe ff)
  have P0 := YS_2.out.put3_other (.bool fn) (.slice fa fb fc) (.slice fd fe ff) (by omega : w.heap.size ≠ w.heap.size + 1)
  have P2 := (P0.put3 (.bool gn) (.slice ga gb gc) (.slice gd ge gf)).drew
  have P3 := (P1.put3_other (.bool gn) (.slice ga gb gc) (.slice gd ge gf) (by omega : w.heap.size + 1 ≠ w.heap.size)).drew
  have y0 := P2.cell 0 _ rfl
  have x0 := P3.cell 0 _ rfl
  have y1 := P2.cell 1 _ rfl
  have x1 := P3.cell 1 _ rfl
  have y2 := P2.cell 2 _ rfl
  have x2 := P3.cell 2 _ rfl
  unfold wput3 at x0 x1 x2 y0 y1 y2
  have BB := (below_put3 (below_put3 HC_2.out (Nat.le_refl _) (.bool fn) (.slice fa fb fc) (.slice fd fe ff)) (by omega : w.heap.size ≤ w.heap.size + 1) (.bool gn) (.slice ga gb gc) (.slice gd ge gf)).drew
  exact bodyPost_ret (v := .tuple #[.agg #[.bool fn, .slice fa fb fc, .slice fd fe ff], .agg #[.bool gn, .slice ga gb gc, .slice gd ge gf], .bool false]) (by simp [results, Tryd.results53, go_sem, x0, x1, x2, y0, y1, y2]) rfl ⟨_, _, _, _, _, _, _, _, _, _, _, _, _, _, rfl, BB⟩

set_option maxHeartbeats 2000000 in
set_option maxRecDepth 20000 in
theorem ptwo_no2 (a b : ByteArray) (w : World) (x : Rat) (hmb : b.size ≤ maxLen) (hx : Hid (readL a.data.toList = some x)) (hq : Hid (readL b.data.toList = none)) :
    Calls Tryd.prog 53 #[.string a, .string b] w fun e w' => ∃ fn fa fb fc fd fe ff gn ga gb gc gd ge gf, e = .returned (.tuple #[.agg #[.bool fn, .slice fa fb fc, .slice fd fe ff], .agg #[.bool gn, .slice ga gb gc, .slice gd ge gf], .bool false]) ∧ Below w.heap.size w w' := by
  obtain ⟨c1, c2, c5⟩ := boxes2 w #[.bool false, .slice none 0 0, .slice none 0 0] #[.bool false, .slice none 0 0, .slice none 0 0] 82 82
  have XR_0 := hid c1
  have XS_0 := hid c2
  have HB_0 := hid c5
  clear c1 c2 c5
  go_enter Tryd.func53, Tryd.ntmps53
  go_wp2_with fail
  refine (pread_yes a _ x hx.out).mono ?_
  rintro e0 w0 ⟨v0, rfl, ⟨fa, fb, fc, fd, fe, ff, rfl, hr0, hs0⟩, hb0⟩
  have XR_1 := hid (XR_0.out.keep hb0)
  have XS_1 := hid (XS_0.out.keep hb0)
  have HB_1 : Hid (Below w.heap.size w w0) := HB_0.out.trans (hb0.mono HB_0.out.size)
  have ltR := XR_1.out.lt
  have cR0 := XR_1.out.cell 0 _ rfl
  have zR0 := XR_1.out.frozen 0
  have cR1 := XR_1.out.cell 1 _ rfl
  have zR1 := XR_1.out.frozen 1
  have cR2 := XR_1.out.cell 2 _ rfl
  have zR2 := XR_1.out.frozen 2
  have ltS := XS_1.out.lt
  have cS0 := XS_1.out.cell 0 _ rfl
  have zS0 := XS_1.out.frozen 0
  have cS1 := XS_1.out.cell 1 _ rfl
  have zS1 := XS_1.out.frozen 1
  have cS2 := XS_1.out.cell 2 _ rfl
  have zS2 := XS_1.out.frozen 2
  have Rf1_1 := hid hr0
  have Rf2_1 := hid hs0
  clear hb0 hr0 hs0
  have YR_1 := hid (bx_past XR_1.out (.cells #[.bool (negB x), .slice fa fb fc, .slice fd fe ff] 82))
  have YS_1 := hid (bx_past XS_1.out (.cells #[.bool (negB x), .slice fa fb fc, .slice fd fe ff] 82))
  have Yf_1 := hid (bx_new w0 #[.bool (negB x), .slice fa fb fc, .slice fd fe ff] 82)
  have Qf1_1 := hid (Rf1_1.out.alloc (.cells #[.bool (negB x), .slice fa fb fc, .slice fd fe ff] 82))
  have Qf2_1 := hid (Rf2_1.out.alloc (.cells #[.bool (negB x), .slice fa fb fc, .slice fd fe ff] 82))
  have HC_1 : Hid (Below w.heap.size w (w0.alloc (.cells #[.bool (negB x), .slice fa fb fc, .slice fd fe ff] 82))) := HB_1.out.alloc HB_1.out.size (.cells #[.bool (negB x), .slice fa fb fc, .slice fd fe ff] 82)
  go_wp2_with fail
  refine (pread_no b _ hmb hq.out).mono ?_
  rintro e1 w1 ⟨gn, ga, gb, gc, gd, ge, gf, rfl, hb1⟩
  have XR_2 := hid (YR_1.out.keep hb1)
  have XS_2 := hid (YS_1.out.keep hb1)
  have Xf_2 := hid (Yf_1.out.keep hb1)
  have Rf1_2 := hid (Qf1_1.out.below hb1)
  have Rf2_2 := hid (Qf2_1.out.below hb1)
  have HB_2 : Hid (Below w.heap.size w w1) := HC_1.out.trans (hb1.mono HC_1.out.size)
  clear ltR cR0 zR0 cR1 zR1 cR2 zR2 ltS cS0 zS0 cS1 zS1 cS2 zS2
  have ltR := XR_2.out.lt
  have cR0 := XR_2.out.cell 0 _ rfl
  have zR0 := XR_2.out.frozen 0
  have cR1 := XR_2.out.cell 1 _ rfl
  have zR1 := XR_2.out.frozen 1
  have cR2 := XR_2.out.cell 2 _ rfl
  have zR2 := XR_2.out.frozen 2
  have ltS := XS_2.out.lt
  have cS0 := XS_2.out.cell 0 _ rfl
  have zS0 := XS_2.out.frozen 0
  have cS1 := XS_2.out.cell 1 _ rfl
  have zS1 := XS_2.out.frozen 1
  have cS2 := XS_2.out.cell 2 _ rfl
  have zS2 := XS_2.out.frozen 2
  have ltf := Xf_2.out.lt
  have cf0 := Xf_2.out.cell 0 _ rfl
  have cf1 := Xf_2.out.cell 1 _ rfl
  have cf2 := Xf_2.out.cell 2 _ rfl
  clear hb1
  have YR_2 := hid (bx_past XR_2.out (.cells #[.bool gn, .slice ga gb gc, .slice gd ge gf] 82))
  have YS_2 := hid (bx_past XS_2.out (.cells #[.bool gn, .slice ga gb gc, .slice gd ge gf] 82))
  have Yf_2 := hid (bx_past Xf_2.out (.cells #[.bool gn, .slice ga gb gc, .slice gd ge gf] 82))
  have Yg_2 := hid (bx_new w1 #[.bool gn, .slice ga gb gc, .slice gd ge gf] 82)
  have Qf1_2 := hid (Rf1_2.out.alloc (.cells #[.bool gn, .slice ga gb gc, .slice gd ge gf] 82))
  have Qf2_2 := hid (Rf2_2.out.alloc (.cells #[.bool gn, .slice ga gb gc, .slice gd ge gf] 82))
  have HC_2 : Hid (Below w.heap.size w (w1.alloc (.cells #[.bool gn, .slice ga gb gc, .slice gd ge gf] 82))) := HB_2.out.alloc HB_2.out.size (.cells #[.bool gn, .slice ga gb gc, .slice gd ge gf] 82)
  go_wp2_with fail
  obtain ⟨V, hV⟩ : ∃ V, V = (w1.alloc (.cells #[.bool gn, .slice ga gb gc, .slice gd ge gf] 82)) := ⟨_, rfl⟩
  rw [← hV] at YR_2 YS_2 Yf_2 Yg_2 Qf1_2 Qf2_2 HC_2 ⊢
  have cR0 := YR_2.out.cell 0 _ rfl
  have cR1 := YR_2.out.cell 1 _ rfl
  have cR2 := YR_2.out.cell 2 _ rfl
  have zR0 := YR_2.out.frozen 0
  have zR1 := YR_2.out.frozen 1
  have zR2 := YR_2.out.frozen 2
  have cS0 := YS_2.out.cell 0 _ rfl
  have cS1 := YS_2.out.cell 1 _ rfl
  have cS2 := YS_2.out.cell 2 _ rfl
  have zS0 := YS_2.out.frozen 0
  have zS1 := YS_2.out.frozen 1
  have zS2 := YS_2.out.frozen 2
  have cf0 := Yf_2.out.cell 0 _ rfl
  have cf1 := Yf_2.out.cell 1 _ rfl
  have cf2 := Yf_2.out.cell 2 _ rfl
  have cg0 := Yg_2.out.cell 0 _ rfl
  have cg1 := Yg_2.out.cell 1 _ rfl
  have cg2 := Yg_2.out.cell 2 _ rfl
  clear hV
  go_region
  go_wp2
  have P1 := YR_2.out.put3 (.bool (negB x)) (.slice fa fb fc) (.slice fd fe ff)
  have P0 := YS_2.out.put3_other (.bool (negB x)) (.slice fa fb fc) (.slice fd fe ff) (by omega : w.heap.size ≠ w.heap.size + 1)
  have P2 := (P0.put3 (.bool gn) (.slice ga gb gc) (.slice gd ge gf)).drew
  have P3 := (P1.put3_other (.bool gn) (.slice ga gb gc) (.slice gd ge gf) (by omega : w.heap.size + 1 ≠ w.heap.size)).drew
  have y0 := P2.cell 0 _ rfl
  have x0 := P3.cell 0 _ rfl
  have y1 := P2.cell 1 _ rfl
  have x1 := P3.cell 1 _ rfl
  have y2 := P2.cell 2 _ rfl
  have x2 := P3.cell 2 _ rfl
  unfold wput3 at x0 x1 x2 y0 y1 y2
  have BB := (below_put3 (below_put3 HC_2.out (Nat.le_refl _) (.bool (negB x)) (.slice fa fb fc) (.slice fd fe ff)) (by omega : w.heap.size ≤ w.heap.size + 1) (.bool gn) (.slice ga gb gc) (.slice gd ge gf)).drew
  exact bodyPost_ret (v := .tuple #[.agg #[.bool (negB x), .slice fa fb fc, .slice fd fe ff], .agg #[.bool gn, .slice ga gb gc, .slice gd ge gf], .bool false]) (by simp [results, Tryd.results53, go_sem, x0, x1, x2, y0, y1, y2]) rfl ⟨_, _, _, _, _, _, _, _, _, _, _, _, _, _, rfl, BB⟩

theorem ptwo_no (a b : ByteArray) (w : World) (hma : a.size ≤ maxLen) (hmb : b.size ≤ maxLen) (hq : ∀ x y, readL a.data.toList = some x → readL b.data.toList = some y → False) :
    Calls Tryd.prog 53 #[.string a, .string b] w fun e w' => ∃ fn fa fb fc fd fe ff gn ga gb gc gd ge gf, e = .returned (.tuple #[.agg #[.bool fn, .slice fa fb fc, .slice fd fe ff], .agg #[.bool gn, .slice ga gb gc, .slice gd ge gf], .bool false]) ∧ Below w.heap.size w w' := by
  cases ha : readL a.data.toList with
  | none => exact ptwo_no1 a b w hma hmb ha
  | some x =>
    cases hb : readL b.data.toList with
    | none => exact ptwo_no2 a b w x hmb ha hb
    | some y => exact (hq x y ha hb).elim

set_option maxHeartbeats 2000000 in
set_option maxRecDepth 20000 in
theorem pCheck_yes (a : ByteArray) (w : World) (x : Rat) (hx : Hid (readL a.data.toList = some x)) :
    Calls Tryd.prog 62 #[.string a] w fun e w' => e = .returned (.int .i64 0) ∧ Below w.heap.size w w' := by
  go_enter Tryd.func62, Tryd.ntmps62
  go_wp2_with fail
  refine (pread_yes a _ x hx.out).mono ?_
  rintro e0 w0 ⟨v, rfl, ⟨ao, n, capa, bo, m, capb, rfl, hr1, hr2⟩, hb0⟩
  have HB := hid hb0
  clear hb0 hr1 hr2
  go_wp2
  go_ret
  exact ⟨rfl, HB.out.alloc HB.out.size _⟩

set_option maxHeartbeats 2000000 in
set_option maxRecDepth 20000 in
theorem pCheck_no (a : ByteArray) (w : World) (hm : a.size ≤ maxLen) (hq : Hid (readL a.data.toList = none)) :
    Calls Tryd.prog 62 #[.string a] w fun e w' => e = .returned (.int .i64 1) ∧ Below w.heap.size w w' := by
  go_enter Tryd.func62, Tryd.ntmps62
  go_wp2_with fail
  refine (pread_no a _ hm hq.out).mono ?_
  rintro e0 w0 ⟨nb, na, nn, nc, oa, on, oc, rfl, hb0⟩
  have HB := hid hb0
  clear hb0
  go_wp2
  go_ret
  exact ⟨rfl, HB.out.alloc HB.out.size _⟩

end Go.Proofs.YtigokanoflkinaaDoor

/- portionref.Add, Subtract, order, Compare: of any texts that are fractions, and of others. (Laid by mkrefp.py.) -/
namespace Go.Proofs.YtigokanoflkinaaDoor
set_option linter.unusedSimpArgs false
set_option linter.unusedVariables false
open Go.RowKit Por

theorem sg_not (m : Bool) (x : Nat) : sg (!m) x = -sg m x := by cases m <;> simp [sg]
theorem sg_scale (m : Bool) (a b : Nat) : sg m (a * b) = sg m a * b := by cases m <;> simp [sg, Int.neg_mul]
theorem sg_of (q : Rat) (k : Nat) : sg (negB q) (q.num.natAbs * k) = q.num * k := by rw [sg_scale, ← num_sg]
theorem sub_sg (x y : Rat) : x - y = mkRat (sg (negB x) (x.num.natAbs * y.den) + sg (!negB y) (y.num.natAbs * x.den)) (x.den * y.den) := by
  have e1 : (-y).num = -y.num := rfl
  have e2 : (-y).den = y.den := rfl
  rw [Rat.sub_eq_add_neg, add_sg, sg_of (-y), e1, e2, sg_not, sg_of y, Int.neg_mul]
/-- the number of limbs of a sum of two products -/
theorem sum_small {p1 q1 p2 q2 z : Nat} (h1 : (limbs p1).length ≤ 300) (h2 : (limbs q1).length ≤ 300) (h3 : (limbs p2).length ≤ 300) (h4 : (limbs q2).length ≤ 300) (hz : z ≤ p1 * q2 + p2 * q1) : (limbs z).length ≤ 601 := by
  have l1 := len_mul p1 q2
  have l2 := len_mul p2 q1
  have l3 := len_add (p1 * q2) (p2 * q1)
  have l4 := len_mono hz
  omega
theorem den_ne (x y : Rat) : x.den * y.den ≠ 0 := Nat.mul_ne_zero x.den_nz y.den_nz
theorem ord_cmp {x y : Rat} {m : Bool} {z : Nat} (h : sg m z = sg (negB x) (x.num.natAbs * y.den) + sg (!negB y) (y.num.natAbs * x.den)) :
    cmpQ x y = if z = 0 then 0 else if m then -1 else 1 := by
  rw [cmpQ_of x y _ _ (lt_sg x y) (eq_sg x y)]
  rw [sg_not] at h
  unfold cmp3
  by_cases hz : z = 0
  · rw [if_pos hz]
    rw [hz] at h
    have : sg m 0 = 0 := by cases m <;> rfl
    rw [if_neg (by omega), if_pos (by omega)]
  · rw [if_neg hz]
    cases m with
    | true =>
      have : sg true z = -(z : Int) := rfl
      rw [if_pos rfl, if_pos (by omega)]
    | false =>
      have : sg false z = (z : Int) := rfl
      rw [if_neg (show ¬ (false = true) by simp), if_neg (by omega), if_neg (by omega)]

set_option maxHeartbeats 2000000 in
set_option maxRecDepth 20000 in
theorem pAdd_yes (a b : ByteArray) (w : World) (x y : Rat) (hx : Hid (readL a.data.toList = some x)) (hy : Hid (readL b.data.toList = some y)) :
    Calls Tryd.prog 11 #[.string a, .string b] w fun e w' => e = .returned (.tuple #[.string ⟨(txt (x + y)).toArray⟩, .int .i64 0]) ∧ Below w.heap.size w w' := by
  have sx := readL_small hx.out
  have sy := readL_small hy.out
  go_enter Tryd.func11, Tryd.ntmps11
  go_wp2_with fail
  refine (ptwo_yes a b _ x y hx hy).mono ?_
  rintro e0 w0 ⟨u, v, rfl, ⟨ao, n, capa, bo, m, capb, rfl, hr1, hr2⟩, ⟨co, p, capc, eo, q, capd, rfl, hr3, hr4⟩, hb0⟩
  obtain ⟨c1, c2, c5⟩ := boxes2 w0 #[.bool (negB x), .slice ao n capa, .slice bo m capb] #[.bool (negB y), .slice co p capc, .slice eo q capd] 82 82
  have b1 : n ≤ 300 := by have := hr1.len; have := sx.1; omega
  have b2 : m ≤ 300 := by have := hr2.len; have := sx.2; omega
  have b3 : p ≤ 300 := by have := hr3.len; have := sy.1; omega
  have b4 : q ≤ 300 := by have := hr4.len; have := sy.2; omega
  have XA_0 := hid c1
  have XB_0 := hid c2
  have R0_0 := hid (hr1.below c5)
  have R1_0 := hid (hr2.below c5)
  have R2_0 := hid (hr3.below c5)
  have R3_0 := hid (hr4.below c5)
  have HB_0 : Hid (Below w.heap.size w _) := hb0.trans (c5.mono hb0.size)
  have SX := hid sx
  have SY := hid sy
  clear hb0 c1 c2 c5 hr1 hr2 hr3 hr4 sx sy
  have ltA := XA_0.out.lt
  have cA0 := XA_0.out.cell 0 _ rfl
  have cA1 := XA_0.out.cell 1 _ rfl
  have cA2 := XA_0.out.cell 2 _ rfl
  have ltB := XB_0.out.lt
  have cB0 := XB_0.out.cell 0 _ rfl
  have cB1 := XB_0.out.cell 1 _ rfl
  have cB2 := XB_0.out.cell 2 _ rfl
  go_wp2_with fail
  refine (psum_any (negB x) (negB y) ao bo co eo n capa m capb p capc q capd x.num.natAbs x.den y.num.natAbs y.den _ R0_0.out R1_0.out R2_0.out R3_0.out (by omega) (by omega) (by omega) (by omega)).mono ?_
  rintro e2 w2 ⟨v2, mz, z, rfl, hz, hzl, ⟨go, gn, gc, ho, hn, hc, rfl, hg2, hh2⟩, hb2⟩
  have XA_3 := hid (XA_0.out.keep hb2)
  have XB_3 := hid (XB_0.out.keep hb2)
  have R0_3 := hid (R0_0.out.below hb2)
  have R1_3 := hid (R1_0.out.below hb2)
  have R2_3 := hid (R2_0.out.below hb2)
  have R3_3 := hid (R3_0.out.below hb2)
  have HB_3 : Hid (Below w.heap.size w w2) := HB_0.out.trans (hb2.mono HB_0.out.size)
  clear ltA cA0 cA1 cA2 ltB cB0 cB1 cB2
  have ltA := XA_3.out.lt
  have cA0 := XA_3.out.cell 0 _ rfl
  have cA1 := XA_3.out.cell 1 _ rfl
  have cA2 := XA_3.out.cell 2 _ rfl
  have ltB := XB_3.out.lt
  have cB0 := XB_3.out.cell 0 _ rfl
  have cB1 := XB_3.out.cell 1 _ rfl
  have cB2 := XB_3.out.cell 2 _ rfl
  have HZ := hid hz
  have lg : gn ≤ 601 := by rw [← hg2.len]; exact sum_small SX.out.1 SX.out.2 SY.out.1 SY.out.2 hzl
  have lh : hn ≤ 600 := by rw [← hh2.len]; exact Nat.le_trans (len_mul _ _) (by have := SX.out.2; have := SY.out.2; omega)
  have leng := hg2.len
  have Rg1_3 := hid hg2
  have Rg2_3 := hid hh2
  clear hb2 hg2 hh2 hz hzl
  clear ltA cA0 cA1 cA2 ltB cB0 cB1 cB2
  have Yg_3 := hid (bx_new w2 #[.bool mz, .slice go gn gc, .slice ho hn hc] 82)
  have Qg1_3 := hid (Rg1_3.out.alloc (.cells #[.bool mz, .slice go gn gc, .slice ho hn hc] 82))
  have Qg2_3 := hid (Rg2_3.out.alloc (.cells #[.bool mz, .slice go gn gc, .slice ho hn hc] 82))
  have HC_3 : Hid (Below w.heap.size w (w2.alloc (.cells #[.bool mz, .slice go gn gc, .slice ho hn hc] 82))) := HB_3.out.alloc HB_3.out.size (.cells #[.bool mz, .slice go gn gc, .slice ho hn hc] 82)
  go_wp2_with fail
  refine (ptext_any mz go ho gn gc hn hc z (x.den * y.den) _ Qg1_3.out Qg2_3.out (by omega) (by omega) (den_ne x y)).mono ?_
  rintro e3 w3 ⟨rfl, hb3⟩
  have Xg_4 := hid (Yg_3.out.keep hb3)
  have Rg1_4 := hid (Qg1_3.out.below hb3)
  have Rg2_4 := hid (Qg2_3.out.below hb3)
  have HB_4 : Hid (Below w.heap.size w w3) := HC_3.out.trans (hb3.mono HC_3.out.size)
  have ltg := Xg_4.out.lt
  have cg0 := Xg_4.out.cell 0 _ rfl
  have cg1 := Xg_4.out.cell 1 _ rfl
  have cg2 := Xg_4.out.cell 2 _ rfl
  clear hb3
  rw [HZ.out, ← add_sg x y]
  go_wp2
  go_ret2
  exact ⟨rfl, HB_4.out⟩

set_option maxHeartbeats 2000000 in
set_option maxRecDepth 20000 in
theorem pSubtract_yes (a b : ByteArray) (w : World) (x y : Rat) (hx : Hid (readL a.data.toList = some x)) (hy : Hid (readL b.data.toList = some y)) :
    Calls Tryd.prog 13 #[.string a, .string b] w fun e w' => e = .returned (.tuple #[.string ⟨(txt (x - y)).toArray⟩, .int .i64 0]) ∧ Below w.heap.size w w' := by
  have sx := readL_small hx.out
  have sy := readL_small hy.out
  go_enter Tryd.func13, Tryd.ntmps13
  go_wp2_with fail
  refine (ptwo_yes a b _ x y hx hy).mono ?_
  rintro e0 w0 ⟨u, v, rfl, ⟨ao, n, capa, bo, m, capb, rfl, hr1, hr2⟩, ⟨co, p, capc, eo, q, capd, rfl, hr3, hr4⟩, hb0⟩
  obtain ⟨c1, c2, c5⟩ := boxes2 w0 #[.bool (negB x), .slice ao n capa, .slice bo m capb] #[.bool (!negB y), .slice co p capc, .slice eo q capd] 82 82
  have b1 : n ≤ 300 := by have := hr1.len; have := sx.1; omega
  have b2 : m ≤ 300 := by have := hr2.len; have := sx.2; omega
  have b3 : p ≤ 300 := by have := hr3.len; have := sy.1; omega
  have b4 : q ≤ 300 := by have := hr4.len; have := sy.2; omega
  have XA_0 := hid c1
  have XB_0 := hid c2
  have R0_0 := hid (hr1.below c5)
  have R1_0 := hid (hr2.below c5)
  have R2_0 := hid (hr3.below c5)
  have R3_0 := hid (hr4.below c5)
  have HB_0 : Hid (Below w.heap.size w _) := hb0.trans (c5.mono hb0.size)
  have SX := hid sx
  have SY := hid sy
  clear hb0 c1 c2 c5 hr1 hr2 hr3 hr4 sx sy
  have ltA := XA_0.out.lt
  have cA0 := XA_0.out.cell 0 _ rfl
  have cA1 := XA_0.out.cell 1 _ rfl
  have cA2 := XA_0.out.cell 2 _ rfl
  have ltB := XB_0.out.lt
  have cB0 := XB_0.out.cell 0 _ rfl
  have cB1 := XB_0.out.cell 1 _ rfl
  have cB2 := XB_0.out.cell 2 _ rfl
  go_wp2_with fail
  refine (psum_any (negB x) (!negB y) ao bo co eo n capa m capb p capc q capd x.num.natAbs x.den y.num.natAbs y.den _ R0_0.out R1_0.out R2_0.out R3_0.out (by omega) (by omega) (by omega) (by omega)).mono ?_
  rintro e2 w2 ⟨v2, mz, z, rfl, hz, hzl, ⟨go, gn, gc, ho, hn, hc, rfl, hg2, hh2⟩, hb2⟩
  have XA_3 := hid (XA_0.out.keep hb2)
  have XB_3 := hid (XB_0.out.keep hb2)
  have R0_3 := hid (R0_0.out.below hb2)
  have R1_3 := hid (R1_0.out.below hb2)
  have R2_3 := hid (R2_0.out.below hb2)
  have R3_3 := hid (R3_0.out.below hb2)
  have HB_3 : Hid (Below w.heap.size w w2) := HB_0.out.trans (hb2.mono HB_0.out.size)
  clear ltA cA0 cA1 cA2 ltB cB0 cB1 cB2
  have ltA := XA_3.out.lt
  have cA0 := XA_3.out.cell 0 _ rfl
  have cA1 := XA_3.out.cell 1 _ rfl
  have cA2 := XA_3.out.cell 2 _ rfl
  have ltB := XB_3.out.lt
  have cB0 := XB_3.out.cell 0 _ rfl
  have cB1 := XB_3.out.cell 1 _ rfl
  have cB2 := XB_3.out.cell 2 _ rfl
  have HZ := hid hz
  have lg : gn ≤ 601 := by rw [← hg2.len]; exact sum_small SX.out.1 SX.out.2 SY.out.1 SY.out.2 hzl
  have lh : hn ≤ 600 := by rw [← hh2.len]; exact Nat.le_trans (len_mul _ _) (by have := SX.out.2; have := SY.out.2; omega)
  have leng := hg2.len
  have Rg1_3 := hid hg2
  have Rg2_3 := hid hh2
  clear hb2 hg2 hh2 hz hzl
  clear ltA cA0 cA1 cA2 ltB cB0 cB1 cB2
  have Yg_3 := hid (bx_new w2 #[.bool mz, .slice go gn gc, .slice ho hn hc] 82)
  have Qg1_3 := hid (Rg1_3.out.alloc (.cells #[.bool mz, .slice go gn gc, .slice ho hn hc] 82))
  have Qg2_3 := hid (Rg2_3.out.alloc (.cells #[.bool mz, .slice go gn gc, .slice ho hn hc] 82))
  have HC_3 : Hid (Below w.heap.size w (w2.alloc (.cells #[.bool mz, .slice go gn gc, .slice ho hn hc] 82))) := HB_3.out.alloc HB_3.out.size (.cells #[.bool mz, .slice go gn gc, .slice ho hn hc] 82)
  go_wp2_with fail
  refine (ptext_any mz go ho gn gc hn hc z (x.den * y.den) _ Qg1_3.out Qg2_3.out (by omega) (by omega) (den_ne x y)).mono ?_
  rintro e3 w3 ⟨rfl, hb3⟩
  have Xg_4 := hid (Yg_3.out.keep hb3)
  have Rg1_4 := hid (Qg1_3.out.below hb3)
  have Rg2_4 := hid (Qg2_3.out.below hb3)
  have HB_4 : Hid (Below w.heap.size w w3) := HC_3.out.trans (hb3.mono HC_3.out.size)
  have ltg := Xg_4.out.lt
  have cg0 := Xg_4.out.cell 0 _ rfl
  have cg1 := Xg_4.out.cell 1 _ rfl
  have cg2 := Xg_4.out.cell 2 _ rfl
  clear hb3
  rw [HZ.out, ← sub_sg x y]
  go_wp2
  go_ret2
  exact ⟨rfl, HB_4.out⟩

set_option maxHeartbeats 2000000 in
set_option maxRecDepth 20000 in
theorem porder_any (ao bo co eo : Option Addr) (n capa m capb p capc q capd : Nat) (x y : Rat) (w : World) (hr1 : Row w ao n capa (limbs x.num.natAbs)) (hr2 : Row w bo m capb (limbs x.den)) (hr3 : Row w co p capc (limbs y.num.natAbs)) (hr4 : Row w eo q capd (limbs y.den)) (sx : Sm x 300) (sy : Sm y 300) :
    Calls Tryd.prog 61 #[.agg #[.bool (negB x), .slice ao n capa, .slice bo m capb], .agg #[.bool (negB y), .slice co p capc, .slice eo q capd]] w fun e w' => e = .returned (.int .i64 (cmpQ x y)) ∧ Below w.heap.size w w' := by
  obtain ⟨c1, c2, c5⟩ := boxes2 w #[.bool (negB x), .slice ao n capa, .slice bo m capb] #[.bool (!negB y), .slice co p capc, .slice eo q capd] 82 82
  have b1 : n ≤ 300 := by have := hr1.len; have := sx.1; omega
  have b2 : m ≤ 300 := by have := hr2.len; have := sx.2; omega
  have b3 : p ≤ 300 := by have := hr3.len; have := sy.1; omega
  have b4 : q ≤ 300 := by have := hr4.len; have := sy.2; omega
  have XA_0 := hid c1
  have XB_0 := hid c2
  have R0_0 := hid (hr1.below c5)
  have R1_0 := hid (hr2.below c5)
  have R2_0 := hid (hr3.below c5)
  have R3_0 := hid (hr4.below c5)
  have HB_0 := hid c5
  have SX := hid sx
  have SY := hid sy
  clear c1 c2 c5 hr1 hr2 hr3 hr4 sx sy
  go_enter Tryd.func61, Tryd.ntmps61
  have ltA := XA_0.out.lt
  have cA0 := XA_0.out.cell 0 _ rfl
  have cA1 := XA_0.out.cell 1 _ rfl
  have cA2 := XA_0.out.cell 2 _ rfl
  have ltB := XB_0.out.lt
  have cB0 := XB_0.out.cell 0 _ rfl
  have cB1 := XB_0.out.cell 1 _ rfl
  have cB2 := XB_0.out.cell 2 _ rfl
  go_wp2_with fail
  refine (psum_any (negB x) (!negB y) ao bo co eo n capa m capb p capc q capd x.num.natAbs x.den y.num.natAbs y.den _ R0_0.out R1_0.out R2_0.out R3_0.out (by omega) (by omega) (by omega) (by omega)).mono ?_
  rintro e2 w2 ⟨v2, mz, z, rfl, hz, hzl, ⟨go, gn, gc, ho, hn, hc, rfl, hg2, hh2⟩, hb2⟩
  have XA_3 := hid (XA_0.out.keep hb2)
  have XB_3 := hid (XB_0.out.keep hb2)
  have R0_3 := hid (R0_0.out.below hb2)
  have R1_3 := hid (R1_0.out.below hb2)
  have R2_3 := hid (R2_0.out.below hb2)
  have R3_3 := hid (R3_0.out.below hb2)
  have HB_3 : Hid (Below w.heap.size w w2) := HB_0.out.trans (hb2.mono HB_0.out.size)
  clear ltA cA0 cA1 cA2 ltB cB0 cB1 cB2
  have ltA := XA_3.out.lt
  have cA0 := XA_3.out.cell 0 _ rfl
  have cA1 := XA_3.out.cell 1 _ rfl
  have cA2 := XA_3.out.cell 2 _ rfl
  have ltB := XB_3.out.lt
  have cB0 := XB_3.out.cell 0 _ rfl
  have cB1 := XB_3.out.cell 1 _ rfl
  have cB2 := XB_3.out.cell 2 _ rfl
  have HZ := hid hz
  have lg : gn ≤ 601 := by rw [← hg2.len]; exact sum_small SX.out.1 SX.out.2 SY.out.1 SY.out.2 hzl
  have lh : hn ≤ 600 := by rw [← hh2.len]; exact Nat.le_trans (len_mul _ _) (by have := SX.out.2; have := SY.out.2; omega)
  have leng := hg2.len
  have Rg1_3 := hid hg2
  have Rg2_3 := hid hh2
  clear hb2 hg2 hh2 hz hzl
  clear ltA cA0 cA1 cA2 ltB cB0 cB1 cB2
  have Yg_3 := hid (bx_new w2 #[.bool mz, .slice go gn gc, .slice ho hn hc] 82)
  have Qg1_3 := hid (Rg1_3.out.alloc (.cells #[.bool mz, .slice go gn gc, .slice ho hn hc] 82))
  have Qg2_3 := hid (Rg2_3.out.alloc (.cells #[.bool mz, .slice go gn gc, .slice ho hn hc] 82))
  have HC_3 : Hid (Below w.heap.size w (w2.alloc (.cells #[.bool mz, .slice go gn gc, .slice ho hn hc] 82))) := HB_3.out.alloc HB_3.out.size (.cells #[.bool mz, .slice go gn gc, .slice ho hn hc] 82)
  have HC := hid (ord_cmp HZ.out)
  by_cases hz0 : z = 0
  · have hgn : gn = 0 := by rw [← leng, hz0]; rfl
    subst hgn
    go_wp2
    go_ret
    exact ⟨by rw [HC.out, if_pos hz0]; rfl, HC_3.out⟩
  · have hgn : ((gn : Int) == 0) = false := by
      rw [beq_eq_false_iff_ne]; have h2 := List.length_pos_iff.2 (limbs_ne_nil hz0); omega
    have HZ0 := hid hz0
    clear hz0
    cases mz with
    | true =>
      go_wp2
      go_ret
      exact ⟨by rw [HC.out, if_neg HZ0.out]; rfl, HC_3.out⟩
    | false =>
      go_wp2
      go_ret
      exact ⟨by rw [HC.out, if_neg HZ0.out]; rfl, HC_3.out⟩

set_option maxHeartbeats 2000000 in
set_option maxRecDepth 20000 in
theorem pCompare_yes (a b : ByteArray) (w : World) (x y : Rat) (hx : Hid (readL a.data.toList = some x)) (hy : Hid (readL b.data.toList = some y)) :
    Calls Tryd.prog 19 #[.string a, .string b] w fun e w' => e = .returned (.tuple #[.int .i64 (cmpQ x y), .int .i64 0]) ∧ Below w.heap.size w w' := by
  have sx := readL_small hx.out
  have sy := readL_small hy.out
  go_enter Tryd.func19, Tryd.ntmps19
  go_wp2_with fail
  refine (ptwo_yes a b _ x y hx hy).mono ?_
  rintro e0 w0 ⟨u, v, rfl, ⟨ao, n, capa, bo, m, capb, rfl, hr1, hr2⟩, ⟨co, p, capc, eo, q, capd, rfl, hr3, hr4⟩, hb0⟩
  obtain ⟨c1, c2, c5⟩ := boxes2 w0 #[.bool (negB x), .slice ao n capa, .slice bo m capb] #[.bool (negB y), .slice co p capc, .slice eo q capd] 82 82
  have b1 : n ≤ 300 := by have := hr1.len; have := sx.1; omega
  have b2 : m ≤ 300 := by have := hr2.len; have := sx.2; omega
  have b3 : p ≤ 300 := by have := hr3.len; have := sy.1; omega
  have b4 : q ≤ 300 := by have := hr4.len; have := sy.2; omega
  have XA_0 := hid c1
  have XB_0 := hid c2
  have R0_0 := hid (hr1.below c5)
  have R1_0 := hid (hr2.below c5)
  have R2_0 := hid (hr3.below c5)
  have R3_0 := hid (hr4.below c5)
  have HB_0 : Hid (Below w.heap.size w _) := hb0.trans (c5.mono hb0.size)
  have SX := hid sx
  have SY := hid sy
  clear hb0 c1 c2 c5 hr1 hr2 hr3 hr4 sx sy
  have ltA := XA_0.out.lt
  have cA0 := XA_0.out.cell 0 _ rfl
  have cA1 := XA_0.out.cell 1 _ rfl
  have cA2 := XA_0.out.cell 2 _ rfl
  have ltB := XB_0.out.lt
  have cB0 := XB_0.out.cell 0 _ rfl
  have cB1 := XB_0.out.cell 1 _ rfl
  have cB2 := XB_0.out.cell 2 _ rfl
  go_wp2_with fail
  refine (porder_any ao bo co eo n capa m capb p capc q capd x y _ R0_0.out R1_0.out R2_0.out R3_0.out SX.out SY.out).mono ?_
  rintro e2 w2 ⟨rfl, hb2⟩
  have XA_3 := hid (XA_0.out.keep hb2)
  have XB_3 := hid (XB_0.out.keep hb2)
  have R0_3 := hid (R0_0.out.below hb2)
  have R1_3 := hid (R1_0.out.below hb2)
  have R2_3 := hid (R2_0.out.below hb2)
  have R3_3 := hid (R3_0.out.below hb2)
  have HB_3 : Hid (Below w.heap.size w w2) := HB_0.out.trans (hb2.mono HB_0.out.size)
  clear ltA cA0 cA1 cA2 ltB cB0 cB1 cB2
  have ltA := XA_3.out.lt
  have cA0 := XA_3.out.cell 0 _ rfl
  have cA1 := XA_3.out.cell 1 _ rfl
  have cA2 := XA_3.out.cell 2 _ rfl
  have ltB := XB_3.out.lt
  have cB0 := XB_3.out.cell 0 _ rfl
  have cB1 := XB_3.out.cell 1 _ rfl
  have cB2 := XB_3.out.cell 2 _ rfl
  clear hb2
  go_wp2
  go_ret2
  exact ⟨rfl, HB_3.out⟩

set_option maxHeartbeats 2000000 in
set_option maxRecDepth 20000 in
theorem pAdd_no (a b : ByteArray) (w : World) (hma : a.size ≤ maxLen) (hmb : b.size ≤ maxLen) (hq : ∀ x y, readL a.data.toList = some x → readL b.data.toList = some y → False) :
    Calls Tryd.prog 11 #[.string a, .string b] w fun e w' => e = .returned (.tuple #[.string ⟨#[]⟩, .int .i64 1]) ∧ Below w.heap.size w w' := by
  have HQ := hid hq
  clear hq
  go_enter Tryd.func11, Tryd.ntmps11
  go_wp2_with fail
  refine (ptwo_no a b _ hma hmb HQ.out).mono ?_
  rintro e0 w0 ⟨f0, fa, fb, fc, fd, fe, ff, g0, ga, gb, gc, gd, ge, gf, rfl, hb0⟩
  obtain ⟨c1, c2, c5⟩ := boxes2 w0 #[.bool f0, .slice fa fb fc, .slice fd fe ff] #[.bool g0, .slice ga gb gc, .slice gd ge gf] 82 82
  have HB : Hid (Below w.heap.size w _) := hb0.trans (c5.mono hb0.size)
  clear hb0 c1 c2 c5
  go_wp2
  go_ret2
  exact ⟨rfl, HB.out⟩

set_option maxHeartbeats 2000000 in
set_option maxRecDepth 20000 in
theorem pSubtract_no (a b : ByteArray) (w : World) (hma : a.size ≤ maxLen) (hmb : b.size ≤ maxLen) (hq : ∀ x y, readL a.data.toList = some x → readL b.data.toList = some y → False) :
    Calls Tryd.prog 13 #[.string a, .string b] w fun e w' => e = .returned (.tuple #[.string ⟨#[]⟩, .int .i64 1]) ∧ Below w.heap.size w w' := by
  have HQ := hid hq
  clear hq
  go_enter Tryd.func13, Tryd.ntmps13
  go_wp2_with fail
  refine (ptwo_no a b _ hma hmb HQ.out).mono ?_
  rintro e0 w0 ⟨f0, fa, fb, fc, fd, fe, ff, g0, ga, gb, gc, gd, ge, gf, rfl, hb0⟩
  obtain ⟨c1, c2, c5⟩ := boxes2 w0 #[.bool f0, .slice fa fb fc, .slice fd fe ff] #[.bool g0, .slice ga gb gc, .slice gd ge gf] 82 82
  have HB : Hid (Below w.heap.size w _) := hb0.trans (c5.mono hb0.size)
  clear hb0 c1 c2 c5
  go_wp2
  go_ret2
  exact ⟨rfl, HB.out⟩

set_option maxHeartbeats 2000000 in
set_option maxRecDepth 20000 in
theorem pMultiply_no (a b : ByteArray) (w : World) (hma : a.size ≤ maxLen) (hmb : b.size ≤ maxLen) (hq : ∀ x y, readL a.data.toList = some x → readL b.data.toList = some y → False) :
    Calls Tryd.prog 15 #[.string a, .string b] w fun e w' => e = .returned (.tuple #[.string ⟨#[]⟩, .int .i64 1]) ∧ Below w.heap.size w w' := by
  have HQ := hid hq
  clear hq
  go_enter Tryd.func15, Tryd.ntmps15
  go_wp2_with fail
  refine (ptwo_no a b _ hma hmb HQ.out).mono ?_
  rintro e0 w0 ⟨f0, fa, fb, fc, fd, fe, ff, g0, ga, gb, gc, gd, ge, gf, rfl, hb0⟩
  obtain ⟨c1, c2, c5⟩ := boxes2 w0 #[.bool f0, .slice fa fb fc, .slice fd fe ff] #[.bool g0, .slice ga gb gc, .slice gd ge gf] 82 82
  have HB : Hid (Below w.heap.size w _) := hb0.trans (c5.mono hb0.size)
  clear hb0 c1 c2 c5
  go_wp2
  go_ret2
  exact ⟨rfl, HB.out⟩

set_option maxHeartbeats 2000000 in
set_option maxRecDepth 20000 in
theorem pDivide_no (a b : ByteArray) (w : World) (hma : a.size ≤ maxLen) (hmb : b.size ≤ maxLen) (hq : ∀ x y, readL a.data.toList = some x → readL b.data.toList = some y → False) :
    Calls Tryd.prog 17 #[.string a, .string b] w fun e w' => e = .returned (.tuple #[.string ⟨#[]⟩, .int .i64 1]) ∧ Below w.heap.size w w' := by
  have HQ := hid hq
  clear hq
  go_enter Tryd.func17, Tryd.ntmps17
  go_wp2_with fail
  refine (ptwo_no a b _ hma hmb HQ.out).mono ?_
  rintro e0 w0 ⟨f0, fa, fb, fc, fd, fe, ff, g0, ga, gb, gc, gd, ge, gf, rfl, hb0⟩
  obtain ⟨c1, c2, c5⟩ := boxes2 w0 #[.bool f0, .slice fa fb fc, .slice fd fe ff] #[.bool g0, .slice ga gb gc, .slice gd ge gf] 82 82
  have HB : Hid (Below w.heap.size w _) := hb0.trans (c5.mono hb0.size)
  clear hb0 c1 c2 c5
  go_wp2
  go_ret2
  exact ⟨rfl, HB.out⟩

set_option maxHeartbeats 2000000 in
set_option maxRecDepth 20000 in
theorem pCompare_no (a b : ByteArray) (w : World) (hma : a.size ≤ maxLen) (hmb : b.size ≤ maxLen) (hq : ∀ x y, readL a.data.toList = some x → readL b.data.toList = some y → False) :
    Calls Tryd.prog 19 #[.string a, .string b] w fun e w' => e = .returned (.tuple #[.int .i64 0, .int .i64 1]) ∧ Below w.heap.size w w' := by
  have HQ := hid hq
  clear hq
  go_enter Tryd.func19, Tryd.ntmps19
  go_wp2_with fail
  refine (ptwo_no a b _ hma hmb HQ.out).mono ?_
  rintro e0 w0 ⟨f0, fa, fb, fc, fd, fe, ff, g0, ga, gb, gc, gd, ge, gf, rfl, hb0⟩
  obtain ⟨c1, c2, c5⟩ := boxes2 w0 #[.bool f0, .slice fa fb fc, .slice fd fe ff] #[.bool g0, .slice ga gb gc, .slice gd ge gf] 82 82
  have HB : Hid (Below w.heap.size w _) := hb0.trans (c5.mono hb0.size)
  clear hb0 c1 c2 c5
  go_wp2
  go_ret2
  exact ⟨rfl, HB.out⟩

end Go.Proofs.YtigokanoflkinaaDoor

/- portionref.Multiply, Divide: of any two texts that are fractions. (Laid by mkrefp.py.) -/
namespace Go.Proofs.YtigokanoflkinaaDoor
set_option linter.unusedSimpArgs false
set_option linter.unusedVariables false
open Go.RowKit Por

set_option maxHeartbeats 2000000 in
set_option maxRecDepth 20000 in
theorem pMultiply_yes (a b : ByteArray) (w : World) (x y : Rat) (hx : Hid (readL a.data.toList = some x)) (hy : Hid (readL b.data.toList = some y)) :
    Calls Tryd.prog 15 #[.string a, .string b] w fun e w' => e = .returned (.tuple #[.string ⟨(txt (x * y)).toArray⟩, .int .i64 0]) ∧ Below w.heap.size w w' := by
  have sx := readL_small hx.out
  have sy := readL_small hy.out
  go_enter Tryd.func15, Tryd.ntmps15
  go_wp2_with fail
  refine (ptwo_yes a b _ x y hx hy).mono ?_
  rintro e0 w0 ⟨u, v, rfl, ⟨ao, n, capa, bo, m, capb, rfl, hr1, hr2⟩, ⟨co, p, capc, eo, q, capd, rfl, hr3, hr4⟩, hb0⟩
  obtain ⟨c1, c2, c5⟩ := boxes2 w0 #[.bool (negB x), .slice ao n capa, .slice bo m capb] #[.bool (negB y), .slice co p capc, .slice eo q capd] 82 82
  have b1 : n ≤ 300 := by have := hr1.len; have := sx.1; omega
  have b2 : m ≤ 300 := by have := hr2.len; have := sx.2; omega
  have b3 : p ≤ 300 := by have := hr3.len; have := sy.1; omega
  have b4 : q ≤ 300 := by have := hr4.len; have := sy.2; omega
  have XA_0 := hid c1
  have XB_0 := hid c2
  have R0_0 := hid (hr1.below c5)
  have R1_0 := hid (hr2.below c5)
  have R2_0 := hid (hr3.below c5)
  have R3_0 := hid (hr4.below c5)
  have HB_0 : Hid (Below w.heap.size w _) := hb0.trans (c5.mono hb0.size)
  have SX := hid sx
  have SY := hid sy
  clear hb0 c1 c2 c5 hr1 hr2 hr3 hr4 sx sy
  go_wp2_with fail
  obtain ⟨V, hV⟩ : ∃ V, V = (w0.alloc (.cells #[.bool (negB x), .slice ao n capa, .slice bo m capb] 82)).alloc (.cells #[.bool (negB y), .slice co p capc, .slice eo q capd] 82) := ⟨_, rfl⟩
  rw [← hV] at XA_0 XB_0 R0_0 R1_0 R2_0 R3_0 HB_0 ⊢
  clear hV
  have a0 := XA_0.out.drew.cell 0 _ rfl
  have d0 := XB_0.out.drew.cell 0 _ rfl
  have a1 := XA_0.out.drew.cell 1 _ rfl
  have d1 := XB_0.out.drew.cell 1 _ rfl
  have a2 := XA_0.out.drew.cell 2 _ rfl
  have d2 := XB_0.out.drew.cell 2 _ rfl
  have LS := hid SX.out
  have LT := hid SY.out
  go_region_held3 (fun w' => w'.cell? ⟨w0.heap.size, 0, none⟩ = some (.bool (negB x)) ∧ w'.cell? ⟨w0.heap.size, 1, none⟩ = some (.slice ao n capa) ∧ w'.cell? ⟨w0.heap.size, 2, none⟩ = some (.slice bo m capb) ∧ w'.cell? ⟨w0.heap.size + 1, 0, none⟩ = some (.bool (negB y)) ∧ w'.cell? ⟨w0.heap.size + 1, 1, none⟩ = some (.slice co p capc) ∧ w'.cell? ⟨w0.heap.size + 1, 2, none⟩ = some (.slice eo q capd)) (first | exact ⟨k60, k61, k62, k63, k64, k65⟩ | exact ⟨k50, k51, k52, k53, k54, k55⟩ | exact ⟨k40, k41, k42, k43, k44, k45⟩ | exact ⟨a0, a1, a2, d0, d1, d2⟩)
    (first | (go_at_call 55; refine (ptext_any (negB x != negB y) go ho gn gc hn hc (x.num.natAbs * y.num.natAbs) (x.den * y.den) w5 (Hg.out.below Hb5.out) Hh.out (by omega) (by omega) (den_ne x y)).mono ?_; rintro e6 w6 ⟨rfl, hb6⟩; have k60 := (XA_5.out.keep hb6).cell 0 _ rfl; have k61 := (XA_5.out.keep hb6).cell 1 _ rfl; have k62 := (XA_5.out.keep hb6).cell 2 _ rfl; have k63 := (XB_5.out.keep hb6).cell 0 _ rfl; have k64 := (XB_5.out.keep hb6).cell 1 _ rfl; have k65 := (XB_5.out.keep hb6).cell 2 _ rfl; have Hb6 := hid hb6; clear hb6) | (go_at_call 58; refine (ptimes_any bo eo m capb q capd x.den y.den w4 (R1_0.out.drew.below Hb4.out) (R3_0.out.drew.below Hb4.out) (by omega) (by omega)).mono ?_; rintro e5 w5 ⟨v5, rfl, ⟨ho, hn, hc, rfl, hr5, _⟩, hb5⟩; have XA_5 := hid (XA_4.out.keep hb5); have XB_5 := hid (XB_4.out.keep hb5); have k50 := XA_5.out.cell 0 _ rfl; have k51 := XA_5.out.cell 1 _ rfl; have k52 := XA_5.out.cell 2 _ rfl; have k53 := XB_5.out.cell 0 _ rfl; have k54 := XB_5.out.cell 1 _ rfl; have k55 := XB_5.out.cell 2 _ rfl; have lenh : hn ≤ 600 := (by rw [← hr5.len]; exact (Nat.le_trans (len_mul _ _) (by have := LS.out.1; have := LS.out.2; have := LT.out.1; have := LT.out.2; omega))); have Hh := hid hr5; have Hb5 := hid hb5; clear hb5 hr5) | (go_at_call 58; refine (ptimes_any ao co n capa p capc x.num.natAbs y.num.natAbs V.drew R0_0.out.drew R2_0.out.drew (by omega) (by omega)).mono ?_; rintro e4 w4 ⟨v4, rfl, ⟨go, gn, gc, rfl, hr4, _⟩, hb4⟩; have XA_4 := hid (XA_0.out.drew.keep hb4); have XB_4 := hid (XB_0.out.drew.keep hb4); have k40 := XA_4.out.cell 0 _ rfl; have k41 := XA_4.out.cell 1 _ rfl; have k42 := XA_4.out.cell 2 _ rfl; have k43 := XB_4.out.cell 0 _ rfl; have k44 := XB_4.out.cell 1 _ rfl; have k45 := XB_4.out.cell 2 _ rfl; have leng : gn ≤ 600 := (by rw [← hr4.len]; exact (Nat.le_trans (len_mul _ _) (by have := LS.out.1; have := LS.out.2; have := LT.out.1; have := LT.out.2; omega))); have Hg := hid hr4; have Hb4 := hid hb4; clear hb4 hr4))
  go_wp2
  go_ret2
  exact ⟨by rw [mul_sg x y]; rfl, ((HB_0.out.drew.trans (Hb4.out.mono HB_0.out.size)).trans (Hb5.out.mono (Nat.le_trans HB_0.out.size Hb4.out.size))).trans (Hb6.out.mono (Nat.le_trans (Nat.le_trans HB_0.out.size Hb4.out.size) Hb5.out.size))⟩

set_option maxHeartbeats 2000000 in
set_option maxRecDepth 20000 in
theorem pDivide_yes (a b : ByteArray) (w : World) (x y : Rat) (hx : Hid (readL a.data.toList = some x)) (hy : Hid (readL b.data.toList = some y)) (hy0 : Hid (y ≠ 0)) :
    Calls Tryd.prog 17 #[.string a, .string b] w fun e w' => e = .returned (.tuple #[.string ⟨(txt (x / y)).toArray⟩, .int .i64 0]) ∧ Below w.heap.size w w' := by
  have sx := readL_small hx.out
  have sy := readL_small hy.out
  go_enter Tryd.func17, Tryd.ntmps17
  go_wp2_with fail
  refine (ptwo_yes a b _ x y hx hy).mono ?_
  rintro e0 w0 ⟨u, v, rfl, ⟨ao, n, capa, bo, m, capb, rfl, hr1, hr2⟩, ⟨co, p, capc, eo, q, capd, rfl, hr3, hr4⟩, hb0⟩
  obtain ⟨c1, c2, c5⟩ := boxes2 w0 #[.bool (negB x), .slice ao n capa, .slice bo m capb] #[.bool (negB y), .slice co p capc, .slice eo q capd] 82 82
  have b1 : n ≤ 300 := by have := hr1.len; have := sx.1; omega
  have b2 : m ≤ 300 := by have := hr2.len; have := sx.2; omega
  have b3 : p ≤ 300 := by have := hr3.len; have := sy.1; omega
  have b4 : q ≤ 300 := by have := hr4.len; have := sy.2; omega
  have XA_0 := hid c1
  have XB_0 := hid c2
  have R0_0 := hid (hr1.below c5)
  have R1_0 := hid (hr2.below c5)
  have R2_0 := hid (hr3.below c5)
  have R3_0 := hid (hr4.below c5)
  have HB_0 : Hid (Below w.heap.size w _) := hb0.trans (c5.mono hb0.size)
  have SX := hid sx
  have SY := hid sy
  clear hb0 c1 c2 c5 hr1 hr2 hr3 hr4 sx sy
  have hpn : ((p : Int) == 0) = false := by
    rw [beq_eq_false_iff_ne]; have h2 := List.length_pos_iff.2 (limbs_ne_nil (fun h => hy0.out ((num_zero y).1 h))); have := R2_0.out.len; omega
  go_wp2_with fail
  obtain ⟨V, hV⟩ : ∃ V, V = (w0.alloc (.cells #[.bool (negB x), .slice ao n capa, .slice bo m capb] 82)).alloc (.cells #[.bool (negB y), .slice co p capc, .slice eo q capd] 82) := ⟨_, rfl⟩
  rw [← hV] at XA_0 XB_0 R0_0 R1_0 R2_0 R3_0 HB_0 ⊢
  clear hV
  have a0 := XA_0.out.drew.cell 0 _ rfl
  have d0 := XB_0.out.drew.cell 0 _ rfl
  have a1 := XA_0.out.drew.cell 1 _ rfl
  have d1 := XB_0.out.drew.cell 1 _ rfl
  have a2 := XA_0.out.drew.cell 2 _ rfl
  have d2 := XB_0.out.drew.cell 2 _ rfl
  have LS := hid SX.out
  have LT := hid SY.out
  go_region_held3 (fun w' => w'.cell? ⟨w0.heap.size, 0, none⟩ = some (.bool (negB x)) ∧ w'.cell? ⟨w0.heap.size, 1, none⟩ = some (.slice ao n capa) ∧ w'.cell? ⟨w0.heap.size, 2, none⟩ = some (.slice bo m capb) ∧ w'.cell? ⟨w0.heap.size + 1, 0, none⟩ = some (.bool (negB y)) ∧ w'.cell? ⟨w0.heap.size + 1, 1, none⟩ = some (.slice co p capc) ∧ w'.cell? ⟨w0.heap.size + 1, 2, none⟩ = some (.slice eo q capd)) (first | exact ⟨k60, k61, k62, k63, k64, k65⟩ | exact ⟨k50, k51, k52, k53, k54, k55⟩ | exact ⟨k40, k41, k42, k43, k44, k45⟩ | exact ⟨a0, a1, a2, d0, d1, d2⟩)
    (first | (go_at_call 55; refine (ptext_any (negB x != negB y) go ho gn gc hn hc (x.num.natAbs * y.den) (x.den * y.num.natAbs) w5 (Hg.out.below Hb5.out) Hh.out (by omega) (by omega) (Nat.mul_ne_zero x.den_nz (fun h => hy0.out ((num_zero y).1 h)))).mono ?_; rintro e6 w6 ⟨rfl, hb6⟩; have k60 := (XA_5.out.keep hb6).cell 0 _ rfl; have k61 := (XA_5.out.keep hb6).cell 1 _ rfl; have k62 := (XA_5.out.keep hb6).cell 2 _ rfl; have k63 := (XB_5.out.keep hb6).cell 0 _ rfl; have k64 := (XB_5.out.keep hb6).cell 1 _ rfl; have k65 := (XB_5.out.keep hb6).cell 2 _ rfl; have Hb6 := hid hb6; clear hb6) | (go_at_call 58; refine (ptimes_any bo co m capb p capc x.den y.num.natAbs w4 (R1_0.out.drew.below Hb4.out) (R2_0.out.drew.below Hb4.out) (by omega) (by omega)).mono ?_; rintro e5 w5 ⟨v5, rfl, ⟨ho, hn, hc, rfl, hr5, _⟩, hb5⟩; have XA_5 := hid (XA_4.out.keep hb5); have XB_5 := hid (XB_4.out.keep hb5); have k50 := XA_5.out.cell 0 _ rfl; have k51 := XA_5.out.cell 1 _ rfl; have k52 := XA_5.out.cell 2 _ rfl; have k53 := XB_5.out.cell 0 _ rfl; have k54 := XB_5.out.cell 1 _ rfl; have k55 := XB_5.out.cell 2 _ rfl; have lenh : hn ≤ 600 := (by rw [← hr5.len]; exact (Nat.le_trans (len_mul _ _) (by have := LS.out.1; have := LS.out.2; have := LT.out.1; have := LT.out.2; omega))); have Hh := hid hr5; have Hb5 := hid hb5; clear hb5 hr5) | (go_at_call 58; refine (ptimes_any ao eo n capa q capd x.num.natAbs y.den V.drew R0_0.out.drew R3_0.out.drew (by omega) (by omega)).mono ?_; rintro e4 w4 ⟨v4, rfl, ⟨go, gn, gc, rfl, hr4, _⟩, hb4⟩; have XA_4 := hid (XA_0.out.drew.keep hb4); have XB_4 := hid (XB_0.out.drew.keep hb4); have k40 := XA_4.out.cell 0 _ rfl; have k41 := XA_4.out.cell 1 _ rfl; have k42 := XA_4.out.cell 2 _ rfl; have k43 := XB_4.out.cell 0 _ rfl; have k44 := XB_4.out.cell 1 _ rfl; have k45 := XB_4.out.cell 2 _ rfl; have leng : gn ≤ 600 := (by rw [← hr4.len]; exact (Nat.le_trans (len_mul _ _) (by have := LS.out.1; have := LS.out.2; have := LT.out.1; have := LT.out.2; omega))); have Hg := hid hr4; have Hb4 := hid hb4; clear hb4 hr4))
  go_wp2
  go_ret2
  exact ⟨by rw [div_sg x y hy0.out]; rfl, ((HB_0.out.drew.trans (Hb4.out.mono HB_0.out.size)).trans (Hb5.out.mono (Nat.le_trans HB_0.out.size Hb4.out.size))).trans (Hb6.out.mono (Nat.le_trans (Nat.le_trans HB_0.out.size Hb4.out.size) Hb5.out.size))⟩

set_option maxHeartbeats 2000000 in
set_option maxRecDepth 20000 in
theorem pDivide_zero (a b : ByteArray) (w : World) (x y : Rat) (hx : Hid (readL a.data.toList = some x)) (hy : Hid (readL b.data.toList = some y)) (hy0 : Hid (y = 0)) :
    Calls Tryd.prog 17 #[.string a, .string b] w fun e w' => e = .returned (.tuple #[.string ⟨#[]⟩, .int .i64 2]) ∧ Below w.heap.size w w' := by
  have sx := readL_small hx.out
  have sy := readL_small hy.out
  go_enter Tryd.func17, Tryd.ntmps17
  go_wp2_with fail
  refine (ptwo_yes a b _ x y hx hy).mono ?_
  rintro e0 w0 ⟨u, v, rfl, ⟨ao, n, capa, bo, m, capb, rfl, hr1, hr2⟩, ⟨co, p, capc, eo, q, capd, rfl, hr3, hr4⟩, hb0⟩
  obtain ⟨c1, c2, c5⟩ := boxes2 w0 #[.bool (negB x), .slice ao n capa, .slice bo m capb] #[.bool (negB y), .slice co p capc, .slice eo q capd] 82 82
  have b1 : n ≤ 300 := by have := hr1.len; have := sx.1; omega
  have b2 : m ≤ 300 := by have := hr2.len; have := sx.2; omega
  have b3 : p ≤ 300 := by have := hr3.len; have := sy.1; omega
  have b4 : q ≤ 300 := by have := hr4.len; have := sy.2; omega
  have XA_0 := hid c1
  have XB_0 := hid c2
  have R0_0 := hid (hr1.below c5)
  have R1_0 := hid (hr2.below c5)
  have R2_0 := hid (hr3.below c5)
  have R3_0 := hid (hr4.below c5)
  have HB_0 : Hid (Below w.heap.size w _) := hb0.trans (c5.mono hb0.size)
  have SX := hid sx
  have SY := hid sy
  clear hb0 c1 c2 c5 hr1 hr2 hr3 hr4 sx sy
  have hpn : p = 0 := by rw [← R2_0.out.len, (num_zero y).2 hy0.out]; rfl
  subst hpn
  go_wp2
  go_ret2
  exact ⟨rfl, HB_0.out⟩

end Go.Proofs.YtigokanoflkinaaDoor

/- portionref.Floor: of any text. (Laid by mkrefp.py.) -/
namespace Go.Proofs.YtigokanoflkinaaDoor
set_option linter.unusedSimpArgs false
set_option linter.unusedVariables false
open Go.RowKit Por

set_option maxHeartbeats 2000000 in
set_option maxRecDepth 20000 in
theorem pFloor_pos (a : ByteArray) (w : World) (x : Rat) (hx : Hid (readL a.data.toList = some x)) (hnb : Hid (negB x = false)) :
    Calls Tryd.prog 64 #[.string a] w fun e w' => e = .returned (.tuple #[.string ⟨(txt (flQ x)).toArray⟩, .int .i64 0]) ∧ Below w.heap.size w w' := by
  have SX := hid (readL_small hx.out)
  go_enter Tryd.func64, Tryd.ntmps64
  go_wp2_with fail
  refine (pread_yes a _ x hx.out).mono ?_
  rintro e0 w0 ⟨v, rfl, ⟨ao, n, capa, bo, m, capb, rfl, hr1, hr2⟩, hb0⟩
  rw [hnb.out]
  have b1 : n ≤ 300 := by have := hr1.len; have := SX.out.1; omega
  have b2 : m ≤ 300 := by have := hr2.len; have := SX.out.2; omega
  have HB_0 := hid hb0
  have R0_0 := hid hr1
  have R1_0 := hid hr2
  clear hb0 hr1 hr2
  have YX_1 := hid (bx_new w0 #[.bool false, .slice ao n capa, .slice bo m capb] 82)
  have Q0_1 := hid (R0_0.out.alloc (.cells #[.bool false, .slice ao n capa, .slice bo m capb] 82))
  have Q1_1 := hid (R1_0.out.alloc (.cells #[.bool false, .slice ao n capa, .slice bo m capb] 82))
  have HC_1 : Hid (Below w.heap.size w (w0.alloc (.cells #[.bool false, .slice ao n capa, .slice bo m capb] 82))) := HB_0.out.alloc HB_0.out.size (.cells #[.bool false, .slice ao n capa, .slice bo m capb] 82)
  go_wp2_with fail
  refine (pover_any ao bo n capa m capb x.num.natAbs x.den _ Q0_1.out Q1_1.out (by omega) (by omega) x.den_nz).mono ?_
  rintro e1 w1 ⟨u1, v1, rfl, ⟨qo, qn, qc, rfl, hq1, _⟩, ⟨ro, rn, rc, rfl, hs1, _⟩, hb1⟩
  have XX_2 := hid (YX_1.out.keep hb1)
  have R0_2 := hid (Q0_1.out.below hb1)
  have R1_2 := hid (Q1_1.out.below hb1)
  have HB_2 : Hid (Below w.heap.size w w1) := HC_1.out.trans (hb1.mono HC_1.out.size)
  have ltX := XX_2.out.lt
  have cX0 := XX_2.out.cell 0 _ rfl
  have zX0 := XX_2.out.frozen 0
  have cX1 := XX_2.out.cell 1 _ rfl
  have zX1 := XX_2.out.frozen 1
  have cX2 := XX_2.out.cell 2 _ rfl
  have zX2 := XX_2.out.frozen 2
  have Rq_2 := hid hq1
  have lenr := hs1.len
  have lenq : qn ≤ 300 := by rw [← hq1.len]; exact Nat.le_trans (len_mono (Nat.div_le_self _ _)) SX.out.1
  clear hb1 hq1 hs1
  go_wp2_with fail
  have a0 := XX_2.out.drew.cell 0 _ rfl
  go_region_held3 (fun w' => w'.cell? ⟨w0.heap.size, 0, none⟩ = some (.bool false)) (first | exact k90 | exact k80 | exact a0)
    (first | (go_at_call 55; refine (ptext_any false qo oo qn qc on oc (x.num.natAbs / x.den) 1 w8 (Rq_2.out.drew.below Hb8.out) Hr8.out (by omega) (by omega) (by omega)).mono ?_; rintro e9 w9 ⟨rfl, hb9⟩; have k90 := (XX_8.out.keep hb9).cell 0 _ rfl; have Hb9 := hid hb9; clear hb9) | (go_at_call 67; refine (pwhole_any 1 w1.drew (by omega)).mono ?_; rintro e8 w8 ⟨v8, rfl, ⟨oo, on, oc, rfl, hr8, _⟩, hb8⟩; have XX_8 := hid (XX_2.out.drew.keep hb8); have k80 := XX_8.out.cell 0 _ rfl; have leno : on ≤ 300 := (by rw [← hr8.len, limbs_one]; decide); have Hr8 := hid hr8; have Hb8 := hid hb8; clear hb8 hr8))
  go_wp2
  go_ret2
  refine ⟨?_, (HB_2.out.drew.trans (Hb8.out.mono HB_2.out.size)).trans (Hb9.out.mono (Nat.le_trans HB_2.out.size Hb8.out.size))⟩
  have hf := fl_pos x hnb.out
  have e := rat_mk (flQ x)
  rw [hf.1, hf.2, fl_den] at e
  rw [← e]; rfl

set_option maxHeartbeats 2000000 in
set_option maxRecDepth 20000 in
theorem pFloor_zero (a : ByteArray) (w : World) (x : Rat) (hx : Hid (readL a.data.toList = some x)) (hnb : Hid (negB x = true)) (hr0 : Hid (x.num.natAbs % x.den = 0)) :
    Calls Tryd.prog 64 #[.string a] w fun e w' => e = .returned (.tuple #[.string ⟨(txt (flQ x)).toArray⟩, .int .i64 0]) ∧ Below w.heap.size w w' := by
  have SX := hid (readL_small hx.out)
  go_enter Tryd.func64, Tryd.ntmps64
  go_wp2_with fail
  refine (pread_yes a _ x hx.out).mono ?_
  rintro e0 w0 ⟨v, rfl, ⟨ao, n, capa, bo, m, capb, rfl, hr1, hr2⟩, hb0⟩
  rw [hnb.out]
  have b1 : n ≤ 300 := by have := hr1.len; have := SX.out.1; omega
  have b2 : m ≤ 300 := by have := hr2.len; have := SX.out.2; omega
  have HB_0 := hid hb0
  have R0_0 := hid hr1
  have R1_0 := hid hr2
  clear hb0 hr1 hr2
  have YX_1 := hid (bx_new w0 #[.bool true, .slice ao n capa, .slice bo m capb] 82)
  have Q0_1 := hid (R0_0.out.alloc (.cells #[.bool true, .slice ao n capa, .slice bo m capb] 82))
  have Q1_1 := hid (R1_0.out.alloc (.cells #[.bool true, .slice ao n capa, .slice bo m capb] 82))
  have HC_1 : Hid (Below w.heap.size w (w0.alloc (.cells #[.bool true, .slice ao n capa, .slice bo m capb] 82))) := HB_0.out.alloc HB_0.out.size (.cells #[.bool true, .slice ao n capa, .slice bo m capb] 82)
  go_wp2_with fail
  refine (pover_any ao bo n capa m capb x.num.natAbs x.den _ Q0_1.out Q1_1.out (by omega) (by omega) x.den_nz).mono ?_
  rintro e1 w1 ⟨u1, v1, rfl, ⟨qo, qn, qc, rfl, hq1, _⟩, ⟨ro, rn, rc, rfl, hs1, _⟩, hb1⟩
  have XX_2 := hid (YX_1.out.keep hb1)
  have R0_2 := hid (Q0_1.out.below hb1)
  have R1_2 := hid (Q1_1.out.below hb1)
  have HB_2 : Hid (Below w.heap.size w w1) := HC_1.out.trans (hb1.mono HC_1.out.size)
  have ltX := XX_2.out.lt
  have cX0 := XX_2.out.cell 0 _ rfl
  have zX0 := XX_2.out.frozen 0
  have cX1 := XX_2.out.cell 1 _ rfl
  have zX1 := XX_2.out.frozen 1
  have cX2 := XX_2.out.cell 2 _ rfl
  have zX2 := XX_2.out.frozen 2
  have Rq_2 := hid hq1
  have lenr := hs1.len
  have lenq : qn ≤ 300 := by rw [← hq1.len]; exact Nat.le_trans (len_mono (Nat.div_le_self _ _)) SX.out.1
  clear hb1 hq1 hs1
  have hrn : rn = 0 := by rw [← lenr, hr0.out]; rfl
  subst hrn
  go_wp2_with fail
  have a0 := XX_2.out.drew.cell 0 _ rfl
  go_region_held3 (fun w' => w'.cell? ⟨w0.heap.size, 0, none⟩ = some (.bool true)) (first | exact k90 | exact k80 | exact a0)
    (first | (go_at_call 55; refine (ptext_any true qo oo qn qc on oc (x.num.natAbs / x.den) 1 w8 (Rq_2.out.drew.below Hb8.out) Hr8.out (by omega) (by omega) (by omega)).mono ?_; rintro e9 w9 ⟨rfl, hb9⟩; have k90 := (XX_8.out.keep hb9).cell 0 _ rfl; have Hb9 := hid hb9; clear hb9) | (go_at_call 67; refine (pwhole_any 1 w1.drew (by omega)).mono ?_; rintro e8 w8 ⟨v8, rfl, ⟨oo, on, oc, rfl, hr8, _⟩, hb8⟩; have XX_8 := hid (XX_2.out.drew.keep hb8); have k80 := XX_8.out.cell 0 _ rfl; have leno : on ≤ 300 := (by rw [← hr8.len, limbs_one]; decide); have Hr8 := hid hr8; have Hb8 := hid hb8; clear hb8 hr8))
  go_wp2
  go_ret2
  refine ⟨?_, (HB_2.out.drew.trans (Hb8.out.mono HB_2.out.size)).trans (Hb9.out.mono (Nat.le_trans HB_2.out.size Hb8.out.size))⟩
  have hf := fl_zero x hnb.out hr0.out
  have e := rat_mk (flQ x)
  rw [hf.1, hf.2, fl_den] at e
  rw [← e]; rfl

set_option maxHeartbeats 2000000 in
set_option maxRecDepth 20000 in
theorem pFloor_more (a : ByteArray) (w : World) (x : Rat) (hx : Hid (readL a.data.toList = some x)) (hnb : Hid (negB x = true)) (hr0 : Hid (x.num.natAbs % x.den ≠ 0)) :
    Calls Tryd.prog 64 #[.string a] w fun e w' => e = .returned (.tuple #[.string ⟨(txt (flQ x)).toArray⟩, .int .i64 0]) ∧ Below w.heap.size w w' := by
  have SX := hid (readL_small hx.out)
  go_enter Tryd.func64, Tryd.ntmps64
  go_wp2_with fail
  refine (pread_yes a _ x hx.out).mono ?_
  rintro e0 w0 ⟨v, rfl, ⟨ao, n, capa, bo, m, capb, rfl, hr1, hr2⟩, hb0⟩
  rw [hnb.out]
  have b1 : n ≤ 300 := by have := hr1.len; have := SX.out.1; omega
  have b2 : m ≤ 300 := by have := hr2.len; have := SX.out.2; omega
  have HB_0 := hid hb0
  have R0_0 := hid hr1
  have R1_0 := hid hr2
  clear hb0 hr1 hr2
  have YX_1 := hid (bx_new w0 #[.bool true, .slice ao n capa, .slice bo m capb] 82)
  have Q0_1 := hid (R0_0.out.alloc (.cells #[.bool true, .slice ao n capa, .slice bo m capb] 82))
  have Q1_1 := hid (R1_0.out.alloc (.cells #[.bool true, .slice ao n capa, .slice bo m capb] 82))
  have HC_1 : Hid (Below w.heap.size w (w0.alloc (.cells #[.bool true, .slice ao n capa, .slice bo m capb] 82))) := HB_0.out.alloc HB_0.out.size (.cells #[.bool true, .slice ao n capa, .slice bo m capb] 82)
  go_wp2_with fail
  refine (pover_any ao bo n capa m capb x.num.natAbs x.den _ Q0_1.out Q1_1.out (by omega) (by omega) x.den_nz).mono ?_
  rintro e1 w1 ⟨u1, v1, rfl, ⟨qo, qn, qc, rfl, hq1, _⟩, ⟨ro, rn, rc, rfl, hs1, _⟩, hb1⟩
  have XX_2 := hid (YX_1.out.keep hb1)
  have R0_2 := hid (Q0_1.out.below hb1)
  have R1_2 := hid (Q1_1.out.below hb1)
  have HB_2 : Hid (Below w.heap.size w w1) := HC_1.out.trans (hb1.mono HC_1.out.size)
  have ltX := XX_2.out.lt
  have cX0 := XX_2.out.cell 0 _ rfl
  have zX0 := XX_2.out.frozen 0
  have cX1 := XX_2.out.cell 1 _ rfl
  have zX1 := XX_2.out.frozen 1
  have cX2 := XX_2.out.cell 2 _ rfl
  have zX2 := XX_2.out.frozen 2
  have Rq_2 := hid hq1
  have lenr := hs1.len
  have lenq : qn ≤ 300 := by rw [← hq1.len]; exact Nat.le_trans (len_mono (Nat.div_le_self _ _)) SX.out.1
  clear hb1 hq1 hs1
  have hrn : 0 < rn := by rw [← lenr]; exact List.length_pos_iff.2 (limbs_ne_nil hr0.out)
  have hrn2 : (0 : Int) < (rn : Int) := by omega
  go_wp2_with fail
  refine (pwhole_any 1 _ (by omega)).mono ?_
  rintro e2 w2 ⟨v2, rfl, ⟨jo, jn, jc, rfl, hq2, _⟩, hb2⟩
  have XX_3 := hid (XX_2.out.keep hb2)
  have R0_3 := hid (R0_2.out.below hb2)
  have R1_3 := hid (R1_2.out.below hb2)
  have Rq_3 := hid (Rq_2.out.below hb2)
  have HB_3 : Hid (Below w.heap.size w w2) := HB_2.out.trans (hb2.mono HB_2.out.size)
  clear ltX cX0 zX0 cX1 zX1 cX2 zX2
  have ltX := XX_3.out.lt
  have cX0 := XX_3.out.cell 0 _ rfl
  have zX0 := XX_3.out.frozen 0
  have cX1 := XX_3.out.cell 1 _ rfl
  have zX1 := XX_3.out.frozen 1
  have cX2 := XX_3.out.cell 2 _ rfl
  have zX2 := XX_3.out.frozen 2
  have Rj_3 := hid hq2
  have lenj : jn ≤ 300 := by rw [← hq2.len, limbs_one]; decide
  clear hb2 hq2
  go_wp2_with fail
  refine (pplus_any qo jo qn qc jn jc (x.num.natAbs / x.den) 1 _ Rq_3.out Rj_3.out (by omega) (by omega)).mono ?_
  rintro e3 w3 ⟨v3, rfl, ⟨zo, zn, zc, rfl, hq3, _⟩, hb3⟩
  have XX_4 := hid (XX_3.out.keep hb3)
  have R0_4 := hid (R0_3.out.below hb3)
  have R1_4 := hid (R1_3.out.below hb3)
  have Rq_4 := hid (Rq_3.out.below hb3)
  have Rj_4 := hid (Rj_3.out.below hb3)
  have HB_4 : Hid (Below w.heap.size w w3) := HB_3.out.trans (hb3.mono HB_3.out.size)
  clear ltX cX0 zX0 cX1 zX1 cX2 zX2
  have ltX := XX_4.out.lt
  have cX0 := XX_4.out.cell 0 _ rfl
  have zX0 := XX_4.out.frozen 0
  have cX1 := XX_4.out.cell 1 _ rfl
  have zX1 := XX_4.out.frozen 1
  have cX2 := XX_4.out.cell 2 _ rfl
  have zX2 := XX_4.out.frozen 2
  have Rz_4 := hid hq3
  have lenz : zn ≤ 400 := by rw [← hq3.len]; exact Nat.le_trans (len_mono (show x.num.natAbs / x.den + 1 ≤ x.num.natAbs + 1 from Nat.succ_le_succ (Nat.div_le_self _ _))) (Nat.le_trans (len_add _ _) (by have := SX.out.1; have e1 : (limbs 1).length = 1 := (by rw [limbs_one]; rfl); omega))
  clear hb3 hq3
  go_wp2_with fail
  have a0 := XX_4.out.drew.cell 0 _ rfl
  go_region_held3 (fun w' => w'.cell? ⟨w0.heap.size, 0, none⟩ = some (.bool true)) (first | exact k90 | exact k80 | exact a0)
    (first | (go_at_call 55; refine (ptext_any true zo oo zn zc on oc (x.num.natAbs / x.den + 1) 1 w8 (Rz_4.out.drew.below Hb8.out) Hr8.out (by omega) (by omega) (by omega)).mono ?_; rintro e9 w9 ⟨rfl, hb9⟩; have k90 := (XX_8.out.keep hb9).cell 0 _ rfl; have Hb9 := hid hb9; clear hb9) | (go_at_call 67; refine (pwhole_any 1 w3.drew (by omega)).mono ?_; rintro e8 w8 ⟨v8, rfl, ⟨oo, on, oc, rfl, hr8, _⟩, hb8⟩; have XX_8 := hid (XX_4.out.drew.keep hb8); have k80 := XX_8.out.cell 0 _ rfl; have leno : on ≤ 300 := (by rw [← hr8.len, limbs_one]; decide); have Hr8 := hid hr8; have Hb8 := hid hb8; clear hb8 hr8))
  go_wp2
  go_ret2
  refine ⟨?_, (HB_4.out.drew.trans (Hb8.out.mono HB_4.out.size)).trans (Hb9.out.mono (Nat.le_trans HB_4.out.size Hb8.out.size))⟩
  have hf := fl_more x hnb.out hr0.out
  have e := rat_mk (flQ x)
  rw [hf.1, hf.2, fl_den] at e
  rw [← e]; rfl

theorem pFloor_yes (a : ByteArray) (w : World) (x : Rat) (hx : Hid (readL a.data.toList = some x)) :
    Calls Tryd.prog 64 #[.string a] w fun e w' => e = .returned (.tuple #[.string ⟨(txt (flQ x)).toArray⟩, .int .i64 0]) ∧ Below w.heap.size w w' := by
  cases hn : negB x with
  | false => exact pFloor_pos a w x hx hn
  | true =>
    by_cases hr : x.num.natAbs % x.den = 0
    · exact pFloor_zero a w x hx hn hr
    · exact pFloor_more a w x hx hn hr

set_option maxHeartbeats 2000000 in
set_option maxRecDepth 20000 in
theorem pFloor_no (a : ByteArray) (w : World) (hm : a.size ≤ maxLen) (hq : Hid (readL a.data.toList = none)) :
    Calls Tryd.prog 64 #[.string a] w fun e w' => e = .returned (.tuple #[.string ⟨#[]⟩, .int .i64 1]) ∧ Below w.heap.size w w' := by
  go_enter Tryd.func64, Tryd.ntmps64
  go_wp2_with fail
  refine (pread_no a _ hm hq.out).mono ?_
  rintro e0 w0 ⟨nb, na, nn, nc, oa, on, oc, rfl, hb0⟩
  have HB := hid hb0
  clear hb0
  go_wp2
  go_ret2
  exact ⟨rfl, HB.out.alloc HB.out.size _⟩

end Go.Proofs.YtigokanoflkinaaDoor

