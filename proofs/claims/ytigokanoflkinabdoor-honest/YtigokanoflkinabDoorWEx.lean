/- WRd, WExA, WExB, WExC, joined. -/
import Derived.Test.YtigokanoflkinabDoorWPrs
import Derived.Test.YtigokanoflkinabDoorWTxt
import Derived.Test.YtigokanoflkinabDoorPure
import Derived.Test.YtigokanoflkinabDoorWRat
/- ratio.Read, Whole. (Laid by mkex.py.) -/
namespace Go.Proofs.YtigokanoflkinabDoor
set_option linter.unusedSimpArgs false
set_option linter.unusedVariables false
open Go.RowKit Por

/-- no more than L limbs above and below -/
def Sm (q : Rat) (L : Nat) : Prop := (limbs q.num.natAbs).length ≤ L ∧ (limbs q.den).length ≤ L

theorem parseU_small {neg : Bool} {t : List UInt8} {q : Rat} (h : parseU neg t = some q) (ht : t.length ≤ 300) : Sm q 300 := by
  unfold parseU at h
  cases hw : wholeB (t.take (slashAt t)) with
  | false => rw [hw, if_neg (by simp)] at h; cases h
  | true =>
    rw [hw, if_pos rfl] at h
    have hu := limbs_dv hw
    have hul : (t.take (slashAt t)).length ≤ t.length := List.length_take_le' _ _
    cases hz : zeroB neg (dv (t.take (slashAt t))) with
    | true => rw [hz, if_pos rfl] at h; cases h
    | false =>
      rw [hz, if_neg (by simp)] at h
      by_cases hk : slashAt t = t.length
      · rw [if_pos hk] at h
        cases h
        obtain ⟨e1, e2, _⟩ := low_canon neg (dv (t.take (slashAt t))) 1 (by omega) (Nat.gcd_one_right _) hz
        refine ⟨by rw [e1]; omega, by rw [e2, limbs_one]; decide⟩
      · rw [if_neg hk] at h
        cases hv : wholeB (t.drop (slashAt t + 1)) with
        | false => rw [hv, if_neg (by simp)] at h; cases h
        | true =>
          rw [hv, if_pos rfl] at h
          have hd := limbs_dv hv
          rw [List.length_drop] at hd
          cases hl : lowB (dv (t.take (slashAt t))) (dv (t.drop (slashAt t + 1))) with
          | false => rw [hl, if_neg (by simp)] at h; cases h
          | true =>
            rw [hl, if_pos rfl] at h
            cases h
            have hg : 1 < dv (t.drop (slashAt t + 1)) ∧ Nat.gcd (dv (t.take (slashAt t))) (dv (t.drop (slashAt t + 1))) = 1 := by unfold lowB at hl; simpa using hl
            obtain ⟨e1, e2, _⟩ := low_canon neg _ _ (by omega) hg.2 hz
            refine ⟨by rw [e1]; omega, by rw [e2]; omega⟩

theorem readL_small {l : List UInt8} {q : Rat} (h : readL l = some q) : Sm q 300 := by
  unfold readL at h
  by_cases hl : l.length ≤ 300
  · rw [if_pos hl] at h
    unfold parseL at h
    by_cases hh : l.head? = some 45
    · rw [if_pos hh] at h; exact parseU_small h (by rw [List.length_tail]; omega)
    · rw [if_neg hh] at h; exact parseU_small h hl
  · rw [if_neg hl] at h; cases h

theorem readL_len {s : ByteArray} {q : Rat} (h : readL s.data.toList = some q) : s.size ≤ 300 ∧ parseL s.data.toList = some q := by
  unfold readL at h
  have e : s.data.toList.length = s.size := (by simp)
  by_cases hl : s.data.toList.length ≤ 300
  · rw [if_pos hl] at h; exact ⟨by omega, h⟩
  · rw [if_neg hl] at h; cases h

set_option maxHeartbeats 2000000 in
set_option maxRecDepth 20000 in
theorem rread_long (s : ByteArray) (w : World) (hs : 300 < s.size) (hm : s.size ≤ maxLen) :
    Calls Tryd.prog 56 #[.string s] w fun e w' => e = .returned (.tuple #[.agg #[.bool false, .slice none 0 0, .slice none 0 0], .bool false]) ∧ Below w.heap.size w w' := by
  unfold maxLen at hm
  have hs' : (300 : Int) < (s.size : Int) := by omega
  go_enter Tryd.func56, Tryd.ntmps56
  go_wp2
  exact bodyPost_ret (v := .tuple #[.agg #[.bool false, .slice none 0 0, .slice none 0 0], .bool false]) (by simp [results, Tryd.results56, go_sem]) rfl ⟨rfl, (Below.refl _ _).alloc (Nat.le_refl _) _⟩

set_option maxHeartbeats 2000000 in
set_option maxRecDepth 20000 in
theorem rread_bad (s : ByteArray) (w : World) (hs : s.size ≤ 300) (hq : Hid (parseL s.data.toList = none)) :
    Calls Tryd.prog 56 #[.string s] w fun e w' => e = .returned (.tuple #[.agg #[.bool false, .slice none 0 0, .slice none 0 0], .bool false]) ∧ Below w.heap.size w w' := by
  have XR_0 := hid (bx_new w #[.bool false, .slice none 0 0, .slice none 0 0] 60)
  have HB_0 := hid ((Below.refl _ w).alloc (Nat.le_refl _) (.cells #[.bool false, .slice none 0 0, .slice none 0 0] 60))
  go_enter Tryd.func56, Tryd.ntmps56
  go_wp2_with fail
  refine (rparse_any s _ hs).mono ?_
  rintro e0 w0 hpe
  rw [hq.out] at hpe
  obtain ⟨rfl, hb0⟩ := hpe
  have XR_1 := hid (XR_0.out.keep hb0)
  have HB_1 : Hid (Below w.heap.size w w0) := HB_0.out.trans (hb0.mono HB_0.out.size)
  have ltR := XR_1.out.lt
  have cR0 := XR_1.out.cell 0 _ rfl
  have zR0 := XR_1.out.frozen 0
  have cR1 := XR_1.out.cell 1 _ rfl
  have zR1 := XR_1.out.frozen 1
  have cR2 := XR_1.out.cell 2 _ rfl
  have zR2 := XR_1.out.frozen 2
  clear hb0
  go_wp2
  have Z := XR_1.out.put3 (.bool false) (.slice none 0 0) (.slice none 0 0)
  have z0 := Z.cell 0 _ rfl
  have z1 := Z.cell 1 _ rfl
  have z2 := Z.cell 2 _ rfl
  unfold wput3 at z0 z1 z2
  have BB := below_put3 HB_1.out (Nat.le_refl _) (.bool false) (.slice none 0 0) (.slice none 0 0)
  exact bodyPost_ret (v := .tuple #[.agg #[.bool false, .slice none 0 0, .slice none 0 0], .bool false]) (by simp [results, Tryd.results56, go_sem, z0, z1, z2]) rfl ⟨rfl, BB⟩

set_option maxHeartbeats 2000000 in
set_option maxRecDepth 20000 in
theorem rread_good (s : ByteArray) (w : World) (q : Rat) (hs : s.size ≤ 300) (hq : Hid (parseL s.data.toList = some q)) :
    Calls Tryd.prog 56 #[.string s] w fun e w' => ∃ v, e = .returned (.tuple #[v, .bool true]) ∧ Frac w' v q ∧ Below w.heap.size w w' := by
  have XR_0 := hid (bx_new w #[.bool false, .slice none 0 0, .slice none 0 0] 60)
  have HB_0 := hid ((Below.refl _ w).alloc (Nat.le_refl _) (.cells #[.bool false, .slice none 0 0, .slice none 0 0] 60))
  go_enter Tryd.func56, Tryd.ntmps56
  go_wp2_with fail
  refine (rparse_any s _ hs).mono ?_
  rintro e0 w0 hpe
  rw [hq.out] at hpe
  obtain ⟨v, rfl, ⟨uo, un, uc, yo, yn, yc, rfl, hr1, hr2⟩, hb0⟩ := hpe
  have XR_1 := hid (XR_0.out.keep hb0)
  have HB_1 : Hid (Below w.heap.size w w0) := HB_0.out.trans (hb0.mono HB_0.out.size)
  have ltR := XR_1.out.lt
  have cR0 := XR_1.out.cell 0 _ rfl
  have zR0 := XR_1.out.frozen 0
  have cR1 := XR_1.out.cell 1 _ rfl
  have zR1 := XR_1.out.frozen 1
  have cR2 := XR_1.out.cell 2 _ rfl
  have zR2 := XR_1.out.frozen 2
  have H1 := hid hr1
  have H2 := hid hr2
  clear hb0 hr1 hr2
  go_wp2
  have Z := XR_1.out.put3 (.bool (negB q)) (.slice uo un uc) (.slice yo yn yc)
  have z0 := Z.cell 0 _ rfl
  have z1 := Z.cell 1 _ rfl
  have z2 := Z.cell 2 _ rfl
  unfold wput3 at z0 z1 z2
  have BB := below_put3 HB_1.out (Nat.le_refl _) (.bool (negB q)) (.slice uo un uc) (.slice yo yn yc)
  refine bodyPost_ret (v := .tuple #[.agg #[.bool (negB q), .slice uo un uc, .slice yo yn yc], .bool true]) (by simp [results, Tryd.results56, go_sem, z0, z1, z2]) rfl ⟨_, rfl, ⟨uo, un, uc, yo, yn, yc, rfl, ?_, ?_⟩, BB⟩
  · exact (H1.out.put3 XR_1.out (by decide) _ _ _)
  · exact (H2.out.put3 XR_1.out (by decide) _ _ _)

theorem rread_yes (s : ByteArray) (w : World) (q : Rat) (hq : readL s.data.toList = some q) :
    Calls Tryd.prog 56 #[.string s] w fun e w' => ∃ v, e = .returned (.tuple #[v, .bool true]) ∧ Frac w' v q ∧ Below w.heap.size w w' :=
  rread_good s w q (readL_len hq).1 (readL_len hq).2
theorem rread_no (s : ByteArray) (w : World) (hm : s.size ≤ maxLen) (hq : readL s.data.toList = none) :
    Calls Tryd.prog 56 #[.string s] w fun e w' => e = .returned (.tuple #[.agg #[.bool false, .slice none 0 0, .slice none 0 0], .bool false]) ∧ Below w.heap.size w w' := by
  by_cases hs : s.size ≤ 300
  · refine rread_bad s w hs ?_
    unfold readL at hq
    have e : s.data.toList.length = s.size := (by simp)
    rwa [if_pos (by omega)] at hq
  · exact rread_long s w (by omega) hm

set_option maxHeartbeats 2000000 in
set_option maxRecDepth 20000 in
theorem whole_walk (n : Int) (h0 : -9223372036854775808 ≤ n) (h1 : n ≤ 9223372036854775807) (w : World) (ht : Tab w) (hs : Hid ((⟨(Go.Lib.itoa n).toArray⟩ : ByteArray).size ≤ 300)) (hq : Hid (parseL (⟨(Go.Lib.itoa n).toArray⟩ : ByteArray).data.toList = some (n : Rat))) :
    Calls Tryd.prog 33 #[.int .i64 n] w fun e w' => ∃ v, e = .returned v ∧ Frac w' v (n : Rat) ∧ Below w.heap.size w w' := by
  have HT := hid (ht.below ((Below.refl _ w).alloc (Nat.le_refl _) (.cells #[.bool false, .slice none 0 0, .slice none 0 0] 60)))
  clear ht
  have XR_0 := hid (bx_new w #[.bool false, .slice none 0 0, .slice none 0 0] 60)
  have HB_0 := hid ((Below.refl _ w).alloc (Nat.le_refl _) (.cells #[.bool false, .slice none 0 0, .slice none 0 0] 60))
  go_enter Tryd.func33, Tryd.ntmps33
  go_wp2_with fail
  refine (itoa_any n h0 h1 _ HT.out).mono ?_
  rintro e0 w0 ⟨rfl, hb0⟩
  have XR_1 := hid (XR_0.out.keep hb0)
  have HB_1 : Hid (Below w.heap.size w w0) := HB_0.out.trans (hb0.mono HB_0.out.size)
  have ltR := XR_1.out.lt
  have cR0 := XR_1.out.cell 0 _ rfl
  have zR0 := XR_1.out.frozen 0
  have cR1 := XR_1.out.cell 1 _ rfl
  have zR1 := XR_1.out.frozen 1
  have cR2 := XR_1.out.cell 2 _ rfl
  have zR2 := XR_1.out.frozen 2
  clear hb0
  go_wp2_with fail
  refine (rparse_any _ _ hs.out).mono ?_
  rintro e1 w1 hpe
  rw [hq.out] at hpe
  obtain ⟨v, rfl, ⟨uo, un, uc, yo, yn, yc, rfl, hr1, hr2⟩, hb1⟩ := hpe
  have XR_2 := hid (XR_1.out.keep hb1)
  have HB_2 : Hid (Below w.heap.size w w1) := HB_1.out.trans (hb1.mono HB_1.out.size)
  clear ltR cR0 zR0 cR1 zR1 cR2 zR2
  have ltR := XR_2.out.lt
  have cR0 := XR_2.out.cell 0 _ rfl
  have zR0 := XR_2.out.frozen 0
  have cR1 := XR_2.out.cell 1 _ rfl
  have zR1 := XR_2.out.frozen 1
  have cR2 := XR_2.out.cell 2 _ rfl
  have zR2 := XR_2.out.frozen 2
  have H1 := hid hr1
  have H2 := hid hr2
  clear hb1 hr1 hr2
  have YR_2 := hid (bx_past XR_2.out (.cells #[.bool (negB (n : Rat)), .slice uo un uc, .slice yo yn yc] 60))
  have YP_2 := hid (bx_new w1 #[.bool (negB (n : Rat)), .slice uo un uc, .slice yo yn yc] 60)
  have HC_2 : Hid (Below w.heap.size w (w1.alloc (.cells #[.bool (negB (n : Rat)), .slice uo un uc, .slice yo yn yc] 60))) := HB_2.out.alloc HB_2.out.size (.cells #[.bool (negB (n : Rat)), .slice uo un uc, .slice yo yn yc] 60)
  go_wp2
  have Z := bx_past (XR_2.out.put3 (.bool (negB (n : Rat))) (.slice uo un uc) (.slice yo yn yc)) (.cells #[.bool (negB (n : Rat)), .slice uo un uc, .slice yo yn yc] 60)
  have z0 := Z.cell 0 _ rfl
  have z1 := Z.cell 1 _ rfl
  have z2 := Z.cell 2 _ rfl
  unfold wput3 at z0 z1 z2
  have BB := below_put3 HB_2.out (Nat.le_refl _) (.bool (negB (n : Rat))) (.slice uo un uc) (.slice yo yn yc)
  refine bodyPost_ret (v := .agg #[.bool (negB (n : Rat)), .slice uo un uc, .slice yo yn yc]) (by simp [results, Tryd.results33, go_sem, z0, z1, z2]) rfl ⟨_, rfl, ⟨uo, un, uc, yo, yn, yc, rfl, ?_, ?_⟩, BB.alloc BB.size _⟩
  · exact (H1.out.put3 XR_2.out (by decide) _ _ _).alloc _
  · exact (H2.out.put3 XR_2.out (by decide) _ _ _).alloc _

theorem whole_any (n : Int) (h0 : -9223372036854775808 ≤ n) (h1 : n ≤ 9223372036854775807) (w : World) (ht : Tab w) :
    Calls Tryd.prog 33 #[.int .i64 n] w fun e w' => ∃ v, e = .returned v ∧ Frac w' v (n : Rat) ∧ Below w.heap.size w w' := by
  have h3 := (Dg.int n h0 h1).txt (by decide)
  rw [txt_int] at h3
  refine whole_walk n h0 h1 w ht ?_ ?_
  · show (Go.Lib.itoa n).toArray.size ≤ 300
    rw [List.size_toArray]; omega
  · show parseL (Go.Lib.itoa n).toArray.toList = some (n : Rat)
    rw [List.toList_toArray, ← txt_int]; exact parseL_txt _

end Go.Proofs.YtigokanoflkinabDoor

/- exact.read, readBoth, Check: what texts are read as. (Laid by mkex.py.) -/
namespace Go.Proofs.YtigokanoflkinabDoor
set_option linter.unusedSimpArgs false
set_option linter.unusedVariables false
open Go.RowKit Por

set_option maxHeartbeats 2000000 in
set_option maxRecDepth 20000 in
theorem read_no' (s : ByteArray) (w : World) (hm : s.size ≤ maxLen) (hq : Hid (readL s.data.toList = none)) :
    Calls Tryd.prog 48 #[.string s] w fun e w' => e = .returned (.tuple #[.agg #[.bool false, .slice none 0 0, .slice none 0 0], .int .i64 1]) ∧ Below w.heap.size w w' := by
  have XR_0 := hid (bx_new w #[.bool false, .slice none 0 0, .slice none 0 0] 60)
  have HB_0 := hid ((Below.refl _ w).alloc (Nat.le_refl _) (.cells #[.bool false, .slice none 0 0, .slice none 0 0] 60))
  go_enter Tryd.func48, Tryd.ntmps48
  go_wp2_with fail
  refine (rread_no s _ hm hq.out).mono ?_
  rintro e0 w0 ⟨rfl, hb0⟩
  have XR_1 := hid (XR_0.out.keep hb0)
  have HB_1 : Hid (Below w.heap.size w w0) := HB_0.out.trans (hb0.mono HB_0.out.size)
  have ltR := XR_1.out.lt
  have cR0 := XR_1.out.cell 0 _ rfl
  have zR0 := XR_1.out.frozen 0
  have cR1 := XR_1.out.cell 1 _ rfl
  have zR1 := XR_1.out.frozen 1
  have cR2 := XR_1.out.cell 2 _ rfl
  have zR2 := XR_1.out.frozen 2
  clear hb0
  have YR_1 := hid (bx_past XR_1.out (.cells #[.bool false, .slice none 0 0, .slice none 0 0] 60))
  have YP_1 := hid (bx_new w0 #[.bool false, .slice none 0 0, .slice none 0 0] 60)
  have HC_1 : Hid (Below w.heap.size w (w0.alloc (.cells #[.bool false, .slice none 0 0, .slice none 0 0] 60))) := HB_1.out.alloc HB_1.out.size (.cells #[.bool false, .slice none 0 0, .slice none 0 0] 60)
  go_wp2
  have Z := bx_past (XR_1.out.put3 (.bool false) (.slice none 0 0) (.slice none 0 0)) (.cells #[.bool false, .slice none 0 0, .slice none 0 0] 60)
  have z0 := Z.cell 0 _ rfl
  have z1 := Z.cell 1 _ rfl
  have z2 := Z.cell 2 _ rfl
  unfold wput3 at z0 z1 z2
  have BB := below_put3 HB_1.out (Nat.le_refl _) (.bool false) (.slice none 0 0) (.slice none 0 0)
  exact bodyPost_ret (v := .tuple #[.agg #[.bool false, .slice none 0 0, .slice none 0 0], .int .i64 1]) (by simp [results, Tryd.results48, go_sem, z0, z1, z2]) rfl ⟨rfl, BB.alloc BB.size _⟩

set_option maxHeartbeats 2000000 in
set_option maxRecDepth 20000 in
theorem read_yes' (s : ByteArray) (w : World) (q : Rat) (hq : Hid (readL s.data.toList = some q)) :
    Calls Tryd.prog 48 #[.string s] w fun e w' => ∃ v, e = .returned (.tuple #[v, .int .i64 0]) ∧ Frac w' v q ∧ Below w.heap.size w w' := by
  have XR_0 := hid (bx_new w #[.bool false, .slice none 0 0, .slice none 0 0] 60)
  have HB_0 := hid ((Below.refl _ w).alloc (Nat.le_refl _) (.cells #[.bool false, .slice none 0 0, .slice none 0 0] 60))
  go_enter Tryd.func48, Tryd.ntmps48
  go_wp2_with fail
  refine (rread_yes s _ q hq.out).mono ?_
  rintro e0 w0 ⟨v, rfl, ⟨uo, un, uc, yo, yn, yc, rfl, hr1, hr2⟩, hb0⟩
  have XR_1 := hid (XR_0.out.keep hb0)
  have HB_1 : Hid (Below w.heap.size w w0) := HB_0.out.trans (hb0.mono HB_0.out.size)
  have ltR := XR_1.out.lt
  have cR0 := XR_1.out.cell 0 _ rfl
  have zR0 := XR_1.out.frozen 0
  have cR1 := XR_1.out.cell 1 _ rfl
  have zR1 := XR_1.out.frozen 1
  have cR2 := XR_1.out.cell 2 _ rfl
  have zR2 := XR_1.out.frozen 2
  have H1 := hid hr1
  have H2 := hid hr2
  clear hb0 hr1 hr2
  have YR_1 := hid (bx_past XR_1.out (.cells #[.bool (negB q), .slice uo un uc, .slice yo yn yc] 60))
  have YP_1 := hid (bx_new w0 #[.bool (negB q), .slice uo un uc, .slice yo yn yc] 60)
  have HC_1 : Hid (Below w.heap.size w (w0.alloc (.cells #[.bool (negB q), .slice uo un uc, .slice yo yn yc] 60))) := HB_1.out.alloc HB_1.out.size (.cells #[.bool (negB q), .slice uo un uc, .slice yo yn yc] 60)
  go_wp2
  have Z := bx_past (XR_1.out.put3 (.bool (negB q)) (.slice uo un uc) (.slice yo yn yc)) (.cells #[.bool (negB q), .slice uo un uc, .slice yo yn yc] 60)
  have z0 := Z.cell 0 _ rfl
  have z1 := Z.cell 1 _ rfl
  have z2 := Z.cell 2 _ rfl
  unfold wput3 at z0 z1 z2
  have BB := below_put3 HB_1.out (Nat.le_refl _) (.bool (negB q)) (.slice uo un uc) (.slice yo yn yc)
  refine bodyPost_ret (v := .tuple #[.agg #[.bool (negB q), .slice uo un uc, .slice yo yn yc], .int .i64 0]) (by simp [results, Tryd.results48, go_sem, z0, z1, z2]) rfl ⟨_, rfl, ⟨uo, un, uc, yo, yn, yc, rfl, ?_, ?_⟩, BB.alloc BB.size _⟩
  · exact (H1.out.put3 XR_1.out (by decide) _ _ _).alloc _
  · exact (H2.out.put3 XR_1.out (by decide) _ _ _).alloc _

theorem read_yes (s : ByteArray) (w : World) (q : Rat) (hq : readL s.data.toList = some q) :
    Calls Tryd.prog 48 #[.string s] w fun e w' => ∃ v, e = .returned (.tuple #[v, .int .i64 0]) ∧ Frac w' v q ∧ Below w.heap.size w w' :=
  read_yes' s w q hq
theorem read_no (s : ByteArray) (w : World) (hm : s.size ≤ maxLen) (hq : readL s.data.toList = none) :
    Calls Tryd.prog 48 #[.string s] w fun e w' => e = .returned (.tuple #[.agg #[.bool false, .slice none 0 0, .slice none 0 0], .int .i64 1]) ∧ Below w.heap.size w w' :=
  read_no' s w hm hq

set_option maxHeartbeats 2000000 in
set_option maxRecDepth 20000 in
theorem both_no1 (a b : ByteArray) (w : World) (hm : a.size ≤ maxLen) (hq : Hid (readL a.data.toList = none)) :
    Calls Tryd.prog 25 #[.string a, .string b] w fun e w' => e = .returned (.tuple #[.agg #[.bool false, .slice none 0 0, .slice none 0 0], .agg #[.bool false, .slice none 0 0, .slice none 0 0], .int .i64 1]) ∧ Below w.heap.size w w' := by
  obtain ⟨c1, c2, c5⟩ := boxes2 w #[.bool false, .slice none 0 0, .slice none 0 0] #[.bool false, .slice none 0 0, .slice none 0 0] 60 60
  have XR_0 := hid c1
  have XS_0 := hid c2
  have HB_0 := hid c5
  clear c1 c2 c5
  go_enter Tryd.func25, Tryd.ntmps25
  go_wp2_with fail
  refine (read_no a _ hm hq.out).mono ?_
  rintro e0 w0 ⟨rfl, hb0⟩
  have XR_1 := hid (XR_0.out.keep hb0)
  have XS_1 := hid (XS_0.out.keep hb0)
  have HB_1 : Hid (Below w.heap.size w w0) := HB_0.out.trans (hb0.mono HB_0.out.size)
  have ltR := XR_1.out.lt
  have cR0 := XR_1.out.cell 0 _ rfl
  have zR0 := XR_1.out.frozen 0
  have cR1 := XR_1.out.cell 1 _ rfl
  have zR1 := XR_1.out.frozen 1
  have cR2 := XR_1.out.cell 2 _ rfl
  have zR2 := XR_1.out.frozen 2
  have ltS := XS_1.out.lt
  have cS0 := XS_1.out.cell 0 _ rfl
  have zS0 := XS_1.out.frozen 0
  have cS1 := XS_1.out.cell 1 _ rfl
  have zS1 := XS_1.out.frozen 1
  have cS2 := XS_1.out.cell 2 _ rfl
  have zS2 := XS_1.out.frozen 2
  clear hb0
  have YR_1 := hid (bx_past XR_1.out (.cells #[.bool false, .slice none 0 0, .slice none 0 0] 60))
  have YS_1 := hid (bx_past XS_1.out (.cells #[.bool false, .slice none 0 0, .slice none 0 0] 60))
  have Yf_1 := hid (bx_new w0 #[.bool false, .slice none 0 0, .slice none 0 0] 60)
  have HC_1 : Hid (Below w.heap.size w (w0.alloc (.cells #[.bool false, .slice none 0 0, .slice none 0 0] 60))) := HB_1.out.alloc HB_1.out.size (.cells #[.bool false, .slice none 0 0, .slice none 0 0] 60)
  go_wp2
  have P1 := XR_1.out.put3 (.bool false) (.slice none 0 0) (.slice none 0 0)
  have P2 := (XS_1.out.put3_other (.bool false) (.slice none 0 0) (.slice none 0 0) (by omega : w.heap.size ≠ w.heap.size + 1)).put3 (.bool false) (.slice none 0 0) (.slice none 0 0)
  have Z := bx_past (P1.put3_other (.bool false) (.slice none 0 0) (.slice none 0 0) (by omega : w.heap.size + 1 ≠ w.heap.size)) (.cells #[.bool false, .slice none 0 0, .slice none 0 0] 60)
  have Y := bx_past P2 (.cells #[.bool false, .slice none 0 0, .slice none 0 0] 60)
  have z0 := Z.cell 0 _ rfl
  have y0 := Y.cell 0 _ rfl
  have z1 := Z.cell 1 _ rfl
  have y1 := Y.cell 1 _ rfl
  have z2 := Z.cell 2 _ rfl
  have y2 := Y.cell 2 _ rfl
  unfold wput3 at z0 z1 z2 y0 y1 y2
  have BB := below_put3 (below_put3 HB_1.out (Nat.le_refl _) (.bool false) (.slice none 0 0) (.slice none 0 0)) (by omega : w.heap.size ≤ w.heap.size + 1) (.bool false) (.slice none 0 0) (.slice none 0 0)
  exact bodyPost_ret (v := .tuple #[.agg #[.bool false, .slice none 0 0, .slice none 0 0], .agg #[.bool false, .slice none 0 0, .slice none 0 0], .int .i64 1]) (by simp [results, Tryd.results25, go_sem, z0, z1, z2, y0, y1, y2]) rfl ⟨rfl, BB.alloc BB.size _⟩

set_option maxHeartbeats 2000000 in
set_option maxRecDepth 20000 in
theorem both_no2 (a b : ByteArray) (w : World) (x : Rat) (hm : b.size ≤ maxLen) (hx : Hid (readL a.data.toList = some x)) (hq : Hid (readL b.data.toList = none)) :
    Calls Tryd.prog 25 #[.string a, .string b] w fun e w' => e = .returned (.tuple #[.agg #[.bool false, .slice none 0 0, .slice none 0 0], .agg #[.bool false, .slice none 0 0, .slice none 0 0], .int .i64 1]) ∧ Below w.heap.size w w' := by
  obtain ⟨c1, c2, c5⟩ := boxes2 w #[.bool false, .slice none 0 0, .slice none 0 0] #[.bool false, .slice none 0 0, .slice none 0 0] 60 60
  have XR_0 := hid c1
  have XS_0 := hid c2
  have HB_0 := hid c5
  clear c1 c2 c5
  go_enter Tryd.func25, Tryd.ntmps25
  go_wp2_with fail
  refine (read_yes a _ x hx.out).mono ?_
  rintro e0 w0 ⟨v0, rfl, ⟨fa, fb, fc, fd, fe, ff, rfl, hr0, hs0⟩, hb0⟩
  have XR_1 := hid (XR_0.out.keep hb0)
  have XS_1 := hid (XS_0.out.keep hb0)
  have HB_1 : Hid (Below w.heap.size w w0) := HB_0.out.trans (hb0.mono HB_0.out.size)
  have ltR := XR_1.out.lt
  have cR0 := XR_1.out.cell 0 _ rfl
  have zR0 := XR_1.out.frozen 0
  have cR1 := XR_1.out.cell 1 _ rfl
  have zR1 := XR_1.out.frozen 1
  have cR2 := XR_1.out.cell 2 _ rfl
  have zR2 := XR_1.out.frozen 2
  have ltS := XS_1.out.lt
  have cS0 := XS_1.out.cell 0 _ rfl
  have zS0 := XS_1.out.frozen 0
  have cS1 := XS_1.out.cell 1 _ rfl
  have zS1 := XS_1.out.frozen 1
  have cS2 := XS_1.out.cell 2 _ rfl
  have zS2 := XS_1.out.frozen 2
  have Rf1_1 := hid hr0
  have Rf2_1 := hid hs0
  clear hb0 hr0 hs0
  have YR_1 := hid (bx_past XR_1.out (.cells #[.bool (negB x), .slice fa fb fc, .slice fd fe ff] 60))
  have YS_1 := hid (bx_past XS_1.out (.cells #[.bool (negB x), .slice fa fb fc, .slice fd fe ff] 60))
  have Yf_1 := hid (bx_new w0 #[.bool (negB x), .slice fa fb fc, .slice fd fe ff] 60)
  have Qf1_1 := hid (Rf1_1.out.alloc (.cells #[.bool (negB x), .slice fa fb fc, .slice fd fe ff] 60))
  have Qf2_1 := hid (Rf2_1.out.alloc (.cells #[.bool (negB x), .slice fa fb fc, .slice fd fe ff] 60))
  have HC_1 : Hid (Below w.heap.size w (w0.alloc (.cells #[.bool (negB x), .slice fa fb fc, .slice fd fe ff] 60))) := HB_1.out.alloc HB_1.out.size (.cells #[.bool (negB x), .slice fa fb fc, .slice fd fe ff] 60)
  go_wp2_with fail
  refine (read_no b _ hm hq.out).mono ?_
  rintro e1 w1 ⟨rfl, hb1⟩
  have XR_2 := hid (YR_1.out.keep hb1)
  have XS_2 := hid (YS_1.out.keep hb1)
  have Xf_2 := hid (Yf_1.out.keep hb1)
  have Rf1_2 := hid (Qf1_1.out.below hb1)
  have Rf2_2 := hid (Qf2_1.out.below hb1)
  have HB_2 : Hid (Below w.heap.size w w1) := HC_1.out.trans (hb1.mono HC_1.out.size)
  clear ltR cR0 zR0 cR1 zR1 cR2 zR2 ltS cS0 zS0 cS1 zS1 cS2 zS2
  have ltR := XR_2.out.lt
  have cR0 := XR_2.out.cell 0 _ rfl
  have zR0 := XR_2.out.frozen 0
  have cR1 := XR_2.out.cell 1 _ rfl
  have zR1 := XR_2.out.frozen 1
  have cR2 := XR_2.out.cell 2 _ rfl
  have zR2 := XR_2.out.frozen 2
  have ltS := XS_2.out.lt
  have cS0 := XS_2.out.cell 0 _ rfl
  have zS0 := XS_2.out.frozen 0
  have cS1 := XS_2.out.cell 1 _ rfl
  have zS1 := XS_2.out.frozen 1
  have cS2 := XS_2.out.cell 2 _ rfl
  have zS2 := XS_2.out.frozen 2
  have ltf := Xf_2.out.lt
  have cf0 := Xf_2.out.cell 0 _ rfl
  have cf1 := Xf_2.out.cell 1 _ rfl
  have cf2 := Xf_2.out.cell 2 _ rfl
  clear hb1
  have YR_2 := hid (bx_past XR_2.out (.cells #[.bool false, .slice none 0 0, .slice none 0 0] 60))
  have YS_2 := hid (bx_past XS_2.out (.cells #[.bool false, .slice none 0 0, .slice none 0 0] 60))
  have Yf_2 := hid (bx_past Xf_2.out (.cells #[.bool false, .slice none 0 0, .slice none 0 0] 60))
  have Yg_2 := hid (bx_new w1 #[.bool false, .slice none 0 0, .slice none 0 0] 60)
  have Qf1_2 := hid (Rf1_2.out.alloc (.cells #[.bool false, .slice none 0 0, .slice none 0 0] 60))
  have Qf2_2 := hid (Rf2_2.out.alloc (.cells #[.bool false, .slice none 0 0, .slice none 0 0] 60))
  have HC_2 : Hid (Below w.heap.size w (w1.alloc (.cells #[.bool false, .slice none 0 0, .slice none 0 0] 60))) := HB_2.out.alloc HB_2.out.size (.cells #[.bool false, .slice none 0 0, .slice none 0 0] 60)
  go_wp2
  have P1 := XR_2.out.put3 (.bool false) (.slice none 0 0) (.slice none 0 0)
  have P2 := (XS_2.out.put3_other (.bool false) (.slice none 0 0) (.slice none 0 0) (by omega : w.heap.size ≠ w.heap.size + 1)).put3 (.bool false) (.slice none 0 0) (.slice none 0 0)
  have Z := bx_past (P1.put3_other (.bool false) (.slice none 0 0) (.slice none 0 0) (by omega : w.heap.size + 1 ≠ w.heap.size)) (.cells #[.bool false, .slice none 0 0, .slice none 0 0] 60)
  have Y := bx_past P2 (.cells #[.bool false, .slice none 0 0, .slice none 0 0] 60)
  have z0 := Z.cell 0 _ rfl
  have y0 := Y.cell 0 _ rfl
  have z1 := Z.cell 1 _ rfl
  have y1 := Y.cell 1 _ rfl
  have z2 := Z.cell 2 _ rfl
  have y2 := Y.cell 2 _ rfl
  unfold wput3 at z0 z1 z2 y0 y1 y2
  have BB := below_put3 (below_put3 HB_2.out (Nat.le_refl _) (.bool false) (.slice none 0 0) (.slice none 0 0)) (by omega : w.heap.size ≤ w.heap.size + 1) (.bool false) (.slice none 0 0) (.slice none 0 0)
  exact bodyPost_ret (v := .tuple #[.agg #[.bool false, .slice none 0 0, .slice none 0 0], .agg #[.bool false, .slice none 0 0, .slice none 0 0], .int .i64 1]) (by simp [results, Tryd.results25, go_sem, z0, z1, z2, y0, y1, y2]) rfl ⟨rfl, BB.alloc BB.size _⟩

end Go.Proofs.YtigokanoflkinabDoor

/- exact.readBoth, of two texts that are fractions. (Laid by mkex.py.) -/
namespace Go.Proofs.YtigokanoflkinabDoor
set_option linter.unusedSimpArgs false
set_option linter.unusedVariables false
open Go.RowKit Por

set_option maxHeartbeats 2000000 in
set_option maxRecDepth 20000 in
theorem both_yes (a b : ByteArray) (w : World) (x y : Rat) (hx : Hid (readL a.data.toList = some x)) (hy : Hid (readL b.data.toList = some y)) :
    Calls Tryd.prog 25 #[.string a, .string b] w fun e w' => ∃ u v, e = .returned (.tuple #[u, v, .int .i64 0]) ∧ Frac w' u x ∧ Frac w' v y ∧ Below w.heap.size w w' := by
  obtain ⟨c1, c2, c5⟩ := boxes2 w #[.bool false, .slice none 0 0, .slice none 0 0] #[.bool false, .slice none 0 0, .slice none 0 0] 60 60
  have XR_0 := hid c1
  have XS_0 := hid c2
  have HB_0 := hid c5
  clear c1 c2 c5
  go_enter Tryd.func25, Tryd.ntmps25
  go_wp2_with fail
  refine (read_yes a _ x hx.out).mono ?_
  rintro e0 w0 ⟨v0, rfl, ⟨fa, fb, fc, fd, fe, ff, rfl, hr0, hs0⟩, hb0⟩
  have XR_1 := hid (XR_0.out.keep hb0)
  have XS_1 := hid (XS_0.out.keep hb0)
  have HB_1 : Hid (Below w.heap.size w w0) := HB_0.out.trans (hb0.mono HB_0.out.size)
  have ltR := XR_1.out.lt
  have cR0 := XR_1.out.cell 0 _ rfl
  have zR0 := XR_1.out.frozen 0
  have cR1 := XR_1.out.cell 1 _ rfl
  have zR1 := XR_1.out.frozen 1
  have cR2 := XR_1.out.cell 2 _ rfl
  have zR2 := XR_1.out.frozen 2
  have ltS := XS_1.out.lt
  have cS0 := XS_1.out.cell 0 _ rfl
  have zS0 := XS_1.out.frozen 0
  have cS1 := XS_1.out.cell 1 _ rfl
  have zS1 := XS_1.out.frozen 1
  have cS2 := XS_1.out.cell 2 _ rfl
  have zS2 := XS_1.out.frozen 2
  have Rf1_1 := hid hr0
  have Rf2_1 := hid hs0
  clear hb0 hr0 hs0
  have YR_1 := hid (bx_past XR_1.out (.cells #[.bool (negB x), .slice fa fb fc, .slice fd fe ff] 60))
  have YS_1 := hid (bx_past XS_1.out (.cells #[.bool (negB x), .slice fa fb fc, .slice fd fe ff] 60))
  have Yf_1 := hid (bx_new w0 #[.bool (negB x), .slice fa fb fc, .slice fd fe ff] 60)
  have Qf1_1 := hid (Rf1_1.out.alloc (.cells #[.bool (negB x), .slice fa fb fc, .slice fd fe ff] 60))
  have Qf2_1 := hid (Rf2_1.out.alloc (.cells #[.bool (negB x), .slice fa fb fc, .slice fd fe ff] 60))
  have HC_1 : Hid (Below w.heap.size w (w0.alloc (.cells #[.bool (negB x), .slice fa fb fc, .slice fd fe ff] 60))) := HB_1.out.alloc HB_1.out.size (.cells #[.bool (negB x), .slice fa fb fc, .slice fd fe ff] 60)
  go_wp2_with fail
  refine (read_yes b _ y hy.out).mono ?_
  rintro e1 w1 ⟨v1, rfl, ⟨ga, gb, gc, gd, ge, gf, rfl, hr1, hs1⟩, hb1⟩
  have XR_2 := hid (YR_1.out.keep hb1)
  have XS_2 := hid (YS_1.out.keep hb1)
  have Xf_2 := hid (Yf_1.out.keep hb1)
  have Rf1_2 := hid (Qf1_1.out.below hb1)
  have Rf2_2 := hid (Qf2_1.out.below hb1)
  have HB_2 : Hid (Below w.heap.size w w1) := HC_1.out.trans (hb1.mono HC_1.out.size)
  clear ltR cR0 zR0 cR1 zR1 cR2 zR2 ltS cS0 zS0 cS1 zS1 cS2 zS2
  have ltR := XR_2.out.lt
  have cR0 := XR_2.out.cell 0 _ rfl
  have zR0 := XR_2.out.frozen 0
  have cR1 := XR_2.out.cell 1 _ rfl
  have zR1 := XR_2.out.frozen 1
  have cR2 := XR_2.out.cell 2 _ rfl
  have zR2 := XR_2.out.frozen 2
  have ltS := XS_2.out.lt
  have cS0 := XS_2.out.cell 0 _ rfl
  have zS0 := XS_2.out.frozen 0
  have cS1 := XS_2.out.cell 1 _ rfl
  have zS1 := XS_2.out.frozen 1
  have cS2 := XS_2.out.cell 2 _ rfl
  have zS2 := XS_2.out.frozen 2
  have ltf := Xf_2.out.lt
  have cf0 := Xf_2.out.cell 0 _ rfl
  have cf1 := Xf_2.out.cell 1 _ rfl
  have cf2 := Xf_2.out.cell 2 _ rfl
  have Rg1_2 := hid hr1
  have Rg2_2 := hid hs1
  clear hb1 hr1 hs1
  have YR_2 := hid (bx_past XR_2.out (.cells #[.bool (negB y), .slice ga gb gc, .slice gd ge gf] 60))
  have YS_2 := hid (bx_past XS_2.out (.cells #[.bool (negB y), .slice ga gb gc, .slice gd ge gf] 60))
  have Yf_2 := hid (bx_past Xf_2.out (.cells #[.bool (negB y), .slice ga gb gc, .slice gd ge gf] 60))
  have Yg_2 := hid (bx_new w1 #[.bool (negB y), .slice ga gb gc, .slice gd ge gf] 60)
  have Qf1_2 := hid (Rf1_2.out.alloc (.cells #[.bool (negB y), .slice ga gb gc, .slice gd ge gf] 60))
  have Qf2_2 := hid (Rf2_2.out.alloc (.cells #[.bool (negB y), .slice ga gb gc, .slice gd ge gf] 60))
  have Qg1_2 := hid (Rg1_2.out.alloc (.cells #[.bool (negB y), .slice ga gb gc, .slice gd ge gf] 60))
  have Qg2_2 := hid (Rg2_2.out.alloc (.cells #[.bool (negB y), .slice ga gb gc, .slice gd ge gf] 60))
  have HC_2 : Hid (Below w.heap.size w (w1.alloc (.cells #[.bool (negB y), .slice ga gb gc, .slice gd ge gf] 60))) := HB_2.out.alloc HB_2.out.size (.cells #[.bool (negB y), .slice ga gb gc, .slice gd ge gf] 60)
  go_wp2_with fail
  obtain ⟨V, hV⟩ : ∃ V, V = (w1.alloc (.cells #[.bool (negB y), .slice ga gb gc, .slice gd ge gf] 60)) := ⟨_, rfl⟩
  rw [← hV] at YR_2 YS_2 Yf_2 Yg_2 Qf1_2 Qf2_2 Qg1_2 Qg2_2 HC_2 ⊢
  have cR0 := YR_2.out.cell 0 _ rfl
  have cR1 := YR_2.out.cell 1 _ rfl
  have cR2 := YR_2.out.cell 2 _ rfl
  have zR0 := YR_2.out.frozen 0
  have zR1 := YR_2.out.frozen 1
  have zR2 := YR_2.out.frozen 2
  have cS0 := YS_2.out.cell 0 _ rfl
  have cS1 := YS_2.out.cell 1 _ rfl
  have cS2 := YS_2.out.cell 2 _ rfl
  have zS0 := YS_2.out.frozen 0
  have zS1 := YS_2.out.frozen 1
  have zS2 := YS_2.out.frozen 2
  have cf0 := Yf_2.out.cell 0 _ rfl
  have cf1 := Yf_2.out.cell 1 _ rfl
  have cf2 := Yf_2.out.cell 2 _ rfl
  have cg0 := Yg_2.out.cell 0 _ rfl
  have cg1 := Yg_2.out.cell 1 _ rfl
  have cg2 := Yg_2.out.cell 2 _ rfl
  clear hV
  go_region
  go_wp2
  have P1 := YR_2.out.put3 (.bool (negB x)) (.slice fa fb fc) (.slice fd fe ff)
  have P0 := YS_2.out.put3_other (.bool (negB x)) (.slice fa fb fc) (.slice fd fe ff) (by omega : w.heap.size ≠ w.heap.size + 1)
  have P2 := (P0.put3 (.bool (negB y)) (.slice ga gb gc) (.slice gd ge gf)).drew
  have P3 := (P1.put3_other (.bool (negB y)) (.slice ga gb gc) (.slice gd ge gf) (by omega : w.heap.size + 1 ≠ w.heap.size)).drew
  have y0 := P2.cell 0 _ rfl
  have x0 := P3.cell 0 _ rfl
  have y1 := P2.cell 1 _ rfl
  have x1 := P3.cell 1 _ rfl
  have y2 := P2.cell 2 _ rfl
  have x2 := P3.cell 2 _ rfl
  unfold wput3 at x0 x1 x2 y0 y1 y2
  have BB := (below_put3 (below_put3 HC_2.out (Nat.le_refl _) (.bool (negB x)) (.slice fa fb fc) (.slice fd fe ff)) (by omega : w.heap.size ≤ w.heap.size + 1) (.bool (negB y)) (.slice ga gb gc) (.slice gd ge gf)).drew
  refine bodyPost_ret (v := .tuple #[.agg #[.bool (negB x), .slice fa fb fc, .slice fd fe ff], .agg #[.bool (negB y), .slice ga gb gc, .slice gd ge gf], .int .i64 0]) (by simp [results, Tryd.results25, go_sem, x0, x1, x2, y0, y1, y2]) rfl ⟨_, _, rfl, ⟨fa, fb, fc, fd, fe, ff, rfl, ?_, ?_⟩, ⟨ga, gb, gc, gd, ge, gf, rfl, ?_, ?_⟩, BB⟩
  · exact ((Qf1_2.out.put3 YR_2.out (by decide) (.bool (negB x)) (.slice fa fb fc) (.slice fd fe ff)).put3 P0 (by decide) (.bool (negB y)) (.slice ga gb gc) (.slice gd ge gf)).drew
  · exact ((Qf2_2.out.put3 YR_2.out (by decide) (.bool (negB x)) (.slice fa fb fc) (.slice fd fe ff)).put3 P0 (by decide) (.bool (negB y)) (.slice ga gb gc) (.slice gd ge gf)).drew
  · exact ((Qg1_2.out.put3 YR_2.out (by decide) (.bool (negB x)) (.slice fa fb fc) (.slice fd fe ff)).put3 P0 (by decide) (.bool (negB y)) (.slice ga gb gc) (.slice gd ge gf)).drew
  · exact ((Qg2_2.out.put3 YR_2.out (by decide) (.bool (negB x)) (.slice fa fb fc) (.slice fd fe ff)).put3 P0 (by decide) (.bool (negB y)) (.slice ga gb gc) (.slice gd ge gf)).drew

theorem mk_small (n : Int) (d : Nat) (hd : d ≠ 0) : (limbs (mkRat n d).num.natAbs).length ≤ (limbs n.natAbs).length ∧ (limbs (mkRat n d).den).length ≤ (limbs d).length := by
  have e : mkRat n d = Rat.normalize n d hd := by unfold mkRat; rw [dif_neg hd]
  rw [e, Rat.normalize_eq]
  constructor
  · apply len_mono
    show (n / ((n.natAbs.gcd d : Nat) : Int)).natAbs ≤ n.natAbs
    exact Int.natAbs_ediv_le_natAbs _ _
  · apply len_mono
    exact Nat.div_le_self _ _
theorem sg_len (m : Bool) (x : Nat) : (sg m x).natAbs = x := sg_abs m x
theorem Sm.mono {q : Rat} {a b : Nat} (h : Sm q a) (hab : a ≤ b) : Sm q b := ⟨Nat.le_trans h.1 hab, Nat.le_trans h.2 hab⟩
theorem Sm.add {x y : Rat} {a b : Nat} (hx : Sm x a) (hy : Sm y b) : Sm (x + y) (a + b + 1) := by
  rw [add_sg]
  obtain ⟨h1, h2⟩ := mk_small (sg (negB x) (x.num.natAbs * y.den) + sg (negB y) (y.num.natAbs * x.den)) (x.den * y.den) (Nat.mul_ne_zero x.den_nz y.den_nz)
  have l1 := len_mul x.num.natAbs y.den
  have l2 := len_mul y.num.natAbs x.den
  have l3 := len_mul x.den y.den
  have l4 : (limbs (sg (negB x) (x.num.natAbs * y.den) + sg (negB y) (y.num.natAbs * x.den)).natAbs).length ≤ (limbs (x.num.natAbs * y.den + y.num.natAbs * x.den)).length := by
    apply len_mono
    have := Int.natAbs_add_le (sg (negB x) (x.num.natAbs * y.den)) (sg (negB y) (y.num.natAbs * x.den))
    rwa [sg_abs, sg_abs] at this
  have l5 := len_add (x.num.natAbs * y.den) (y.num.natAbs * x.den)
  obtain ⟨a1, a2⟩ := hx
  obtain ⟨b1, b2⟩ := hy
  exact ⟨by omega, by omega⟩
theorem Sm.neg {x : Rat} {a : Nat} (hx : Sm x a) : Sm (-x) a := by
  have e1 : (-x).num = -x.num := rfl
  have e2 : (-x).den = x.den := rfl
  unfold Sm
  rw [e1, e2, Int.natAbs_neg]; exact hx
theorem Sm.sub {x y : Rat} {a b : Nat} (hx : Sm x a) (hy : Sm y b) : Sm (x - y) (a + b + 1) := by rw [Rat.sub_eq_add_neg]; exact hx.add hy.neg
theorem Sm.mul {x y : Rat} {a b : Nat} (hx : Sm x a) (hy : Sm y b) : Sm (x * y) (a + b) := by
  rw [mul_sg]
  obtain ⟨h1, h2⟩ := mk_small (sg (negB x != negB y) (x.num.natAbs * y.num.natAbs)) (x.den * y.den) (Nat.mul_ne_zero x.den_nz y.den_nz)
  rw [sg_abs] at h1
  have l1 := len_mul x.num.natAbs y.num.natAbs
  have l3 := len_mul x.den y.den
  obtain ⟨a1, a2⟩ := hx
  obtain ⟨b1, b2⟩ := hy
  exact ⟨by omega, by omega⟩
theorem Sm.div {x y : Rat} {a b : Nat} (hx : Sm x a) (hy : Sm y b) (h0 : y ≠ 0) : Sm (x / y) (a + b) := by
  rw [div_sg x y h0]
  obtain ⟨h1, h2⟩ := mk_small (sg (negB x != negB y) (x.num.natAbs * y.den)) (x.den * y.num.natAbs) (Nat.mul_ne_zero x.den_nz (fun h => h0 ((num_zero y).1 h)))
  rw [sg_abs] at h1
  have l1 := len_mul x.num.natAbs y.den
  have l3 := len_mul x.den y.num.natAbs
  obtain ⟨a1, a2⟩ := hx
  obtain ⟨b1, b2⟩ := hy
  exact ⟨by omega, by omega⟩

end Go.Proofs.YtigokanoflkinabDoor

/- exact.Add, Subtract, Multiply, Divide, Compare: of any two texts. (Laid by mkex.py.) -/
namespace Go.Proofs.YtigokanoflkinabDoor
set_option linter.unusedSimpArgs false
set_option linter.unusedVariables false
open Go.RowKit Por
set_option maxHeartbeats 2000000 in
set_option maxRecDepth 20000 in
theorem xMultiply_yes (a b : ByteArray) (w : World) (x y : Rat) (hx : Hid (readL a.data.toList = some x)) (hy : Hid (readL b.data.toList = some y)) (ht : Tab w) :
    Calls Tryd.prog 36 #[.string a, .string b] w fun e w' => e = .returned (.tuple #[.string ⟨(txt (x * y)).toArray⟩, .int .i64 0]) ∧ Below w.heap.size w w' := by
  have sx := readL_small hx.out
  have sy := readL_small hy.out
  have HT_0 := hid ht
  clear ht
  go_enter Tryd.func36, Tryd.ntmps36
  go_wp2_with fail
  refine (both_yes a b _ x y hx hy).mono ?_
  rintro e0 w0 ⟨u, v, rfl, ⟨ao, n, capa, bo, m, capb, rfl, hr1, hr2⟩, ⟨co, p, capc, eo, q, capd, rfl, hr3, hr4⟩, hb0⟩
  obtain ⟨c1, c2, c5⟩ := boxes2 w0 #[.bool (negB x), .slice ao n capa, .slice bo m capb] #[.bool (negB y), .slice co p capc, .slice eo q capd] 60 60
  have b1 : n ≤ 300 := by have := hr1.len; have := sx.1; omega
  have b2 : m ≤ 300 := by have := hr2.len; have := sx.2; omega
  have b3 : p ≤ 300 := by have := hr3.len; have := sy.1; omega
  have b4 : q ≤ 300 := by have := hr4.len; have := sy.2; omega
  have XA_0 := hid c1
  have XB_0 := hid c2
  have R0_0 := hid (hr1.below c5)
  have R1_0 := hid (hr2.below c5)
  have R2_0 := hid (hr3.below c5)
  have R3_0 := hid (hr4.below c5)
  have HB_0 : Hid (Below w.heap.size w _) := hb0.trans (c5.mono hb0.size)
  have HT_1 := hid ((HT_0.out.below hb0).below c5)
  have SX := hid sx
  have SY := hid sy
  clear hb0 c1 c2 c5 hr1 hr2 hr3 hr4 HT_0 sx sy
  have ltA := XA_0.out.lt
  have cA0 := XA_0.out.cell 0 _ rfl
  have cA1 := XA_0.out.cell 1 _ rfl
  have cA2 := XA_0.out.cell 2 _ rfl
  have ltB := XB_0.out.lt
  have cB0 := XB_0.out.cell 0 _ rfl
  have cB1 := XB_0.out.cell 1 _ rfl
  have cB2 := XB_0.out.cell 2 _ rfl
  go_wp2_with fail
  refine (rmul_any ao bo co eo n capa m capb p capc q capd x y _ R0_0.out R1_0.out R2_0.out R3_0.out (by omega) (by omega) (by omega) (by omega)).mono ?_
  rintro e2 w2 ⟨v2, rfl, ⟨go, gn, gc, ho, hn, hc, rfl, hg2, hh2⟩, hb2⟩
  have XA_3 := hid (XA_0.out.keep hb2)
  have XB_3 := hid (XB_0.out.keep hb2)
  have R0_3 := hid (R0_0.out.below hb2)
  have R1_3 := hid (R1_0.out.below hb2)
  have R2_3 := hid (R2_0.out.below hb2)
  have R3_3 := hid (R3_0.out.below hb2)
  have HB_3 : Hid (Below w.heap.size w w2) := HB_0.out.trans (hb2.mono HB_0.out.size)
  have HT_3 := hid (HT_1.out.below hb2)
  clear ltA cA0 cA1 cA2 ltB cB0 cB1 cB2
  have ltA := XA_3.out.lt
  have cA0 := XA_3.out.cell 0 _ rfl
  have cA1 := XA_3.out.cell 1 _ rfl
  have cA2 := XA_3.out.cell 2 _ rfl
  have ltB := XB_3.out.lt
  have cB0 := XB_3.out.cell 0 _ rfl
  have cB1 := XB_3.out.cell 1 _ rfl
  have cB2 := XB_3.out.cell 2 _ rfl
  have Rg1_3 := hid hg2
  have Rg2_3 := hid hh2
  clear hb2 hg2 hh2
  clear ltA cA0 cA1 cA2 ltB cB0 cB1 cB2
  have Yg_3 := hid (bx_new w2 #[.bool (negB (x * y)), .slice go gn gc, .slice ho hn hc] 60)
  have Qg1_3 := hid (Rg1_3.out.alloc (.cells #[.bool (negB (x * y)), .slice go gn gc, .slice ho hn hc] 60))
  have Qg2_3 := hid (Rg2_3.out.alloc (.cells #[.bool (negB (x * y)), .slice go gn gc, .slice ho hn hc] 60))
  have HC_3 : Hid (Below w.heap.size w (w2.alloc (.cells #[.bool (negB (x * y)), .slice go gn gc, .slice ho hn hc] 60))) := HB_3.out.alloc HB_3.out.size (.cells #[.bool (negB (x * y)), .slice go gn gc, .slice ho hn hc] 60)
  have HU_3 := hid (HT_3.out.below ((Below.refl _ _).alloc (Nat.le_refl _) (.cells #[.bool (negB (x * y)), .slice go gn gc, .slice ho hn hc] 60)))
  have SQ := hid (SX.out.mul SY.out)
  have bg : gn ≤ 30000 := by have h5 := Qg1_3.out.len; have := SQ.out.1; omega
  have bh : hn ≤ 30000 := by have h5 := Qg2_3.out.len; have := SQ.out.2; omega
  go_wp2_with fail
  refine (rtext_any go ho gn gc hn hc (x * y) _ Qg1_3.out Qg2_3.out bg bh HU_3.out).mono ?_
  rintro e3 w3 ⟨rfl, hb3⟩
  have Xg_4 := hid (Yg_3.out.keep hb3)
  have Rg1_4 := hid (Qg1_3.out.below hb3)
  have Rg2_4 := hid (Qg2_3.out.below hb3)
  have HB_4 : Hid (Below w.heap.size w w3) := HC_3.out.trans (hb3.mono HC_3.out.size)
  have HT_4 := hid (HU_3.out.below hb3)
  have ltg := Xg_4.out.lt
  have cg0 := Xg_4.out.cell 0 _ rfl
  have cg1 := Xg_4.out.cell 1 _ rfl
  have cg2 := Xg_4.out.cell 2 _ rfl
  clear hb3
  go_wp2
  go_ret2
  exact ⟨rfl, HB_4.out⟩

set_option maxHeartbeats 2000000 in
set_option maxRecDepth 20000 in
theorem xDivide_yes (a b : ByteArray) (w : World) (x y : Rat) (hx : Hid (readL a.data.toList = some x)) (hy : Hid (readL b.data.toList = some y)) (ht : Tab w) (hy0 : Hid (y ≠ 0)) :
    Calls Tryd.prog 12 #[.string a, .string b] w fun e w' => e = .returned (.tuple #[.string ⟨(txt (x / y)).toArray⟩, .int .i64 0]) ∧ Below w.heap.size w w' := by
  have sx := readL_small hx.out
  have sy := readL_small hy.out
  have HT_0 := hid ht
  clear ht
  go_enter Tryd.func12, Tryd.ntmps12
  go_wp2_with fail
  refine (both_yes a b _ x y hx hy).mono ?_
  rintro e0 w0 ⟨u, v, rfl, ⟨ao, n, capa, bo, m, capb, rfl, hr1, hr2⟩, ⟨co, p, capc, eo, q, capd, rfl, hr3, hr4⟩, hb0⟩
  obtain ⟨c1, c2, c5⟩ := boxes2 w0 #[.bool (negB x), .slice ao n capa, .slice bo m capb] #[.bool (negB y), .slice co p capc, .slice eo q capd] 60 60
  have b1 : n ≤ 300 := by have := hr1.len; have := sx.1; omega
  have b2 : m ≤ 300 := by have := hr2.len; have := sx.2; omega
  have b3 : p ≤ 300 := by have := hr3.len; have := sy.1; omega
  have b4 : q ≤ 300 := by have := hr4.len; have := sy.2; omega
  have XA_0 := hid c1
  have XB_0 := hid c2
  have R0_0 := hid (hr1.below c5)
  have R1_0 := hid (hr2.below c5)
  have R2_0 := hid (hr3.below c5)
  have R3_0 := hid (hr4.below c5)
  have HB_0 : Hid (Below w.heap.size w _) := hb0.trans (c5.mono hb0.size)
  have HT_1 := hid ((HT_0.out.below hb0).below c5)
  have SX := hid sx
  have SY := hid sy
  clear hb0 c1 c2 c5 hr1 hr2 hr3 hr4 HT_0 sx sy
  have ltA := XA_0.out.lt
  have cA0 := XA_0.out.cell 0 _ rfl
  have cA1 := XA_0.out.cell 1 _ rfl
  have cA2 := XA_0.out.cell 2 _ rfl
  have ltB := XB_0.out.lt
  have cB0 := XB_0.out.cell 0 _ rfl
  have cB1 := XB_0.out.cell 1 _ rfl
  have cB2 := XB_0.out.cell 2 _ rfl
  go_wp2_with fail
  refine (rdiv_yes ao bo co eo n capa m capb p capc q capd x y _ R0_0.out R1_0.out R2_0.out R3_0.out (by omega) (by omega) (by omega) (by omega) hy0.out).mono ?_
  rintro e2 w2 ⟨v2, rfl, ⟨go, gn, gc, ho, hn, hc, rfl, hg2, hh2⟩, hb2⟩
  have XA_3 := hid (XA_0.out.keep hb2)
  have XB_3 := hid (XB_0.out.keep hb2)
  have R0_3 := hid (R0_0.out.below hb2)
  have R1_3 := hid (R1_0.out.below hb2)
  have R2_3 := hid (R2_0.out.below hb2)
  have R3_3 := hid (R3_0.out.below hb2)
  have HB_3 : Hid (Below w.heap.size w w2) := HB_0.out.trans (hb2.mono HB_0.out.size)
  have HT_3 := hid (HT_1.out.below hb2)
  clear ltA cA0 cA1 cA2 ltB cB0 cB1 cB2
  have ltA := XA_3.out.lt
  have cA0 := XA_3.out.cell 0 _ rfl
  have cA1 := XA_3.out.cell 1 _ rfl
  have cA2 := XA_3.out.cell 2 _ rfl
  have ltB := XB_3.out.lt
  have cB0 := XB_3.out.cell 0 _ rfl
  have cB1 := XB_3.out.cell 1 _ rfl
  have cB2 := XB_3.out.cell 2 _ rfl
  have Rg1_3 := hid hg2
  have Rg2_3 := hid hh2
  clear hb2 hg2 hh2
  clear ltA cA0 cA1 cA2 ltB cB0 cB1 cB2
  have Yg_3 := hid (bx_new w2 #[.bool (negB (x / y)), .slice go gn gc, .slice ho hn hc] 60)
  have Qg1_3 := hid (Rg1_3.out.alloc (.cells #[.bool (negB (x / y)), .slice go gn gc, .slice ho hn hc] 60))
  have Qg2_3 := hid (Rg2_3.out.alloc (.cells #[.bool (negB (x / y)), .slice go gn gc, .slice ho hn hc] 60))
  have HC_3 : Hid (Below w.heap.size w (w2.alloc (.cells #[.bool (negB (x / y)), .slice go gn gc, .slice ho hn hc] 60))) := HB_3.out.alloc HB_3.out.size (.cells #[.bool (negB (x / y)), .slice go gn gc, .slice ho hn hc] 60)
  have HU_3 := hid (HT_3.out.below ((Below.refl _ _).alloc (Nat.le_refl _) (.cells #[.bool (negB (x / y)), .slice go gn gc, .slice ho hn hc] 60)))
  have SQ := hid (SX.out.div SY.out hy0.out)
  have bg : gn ≤ 30000 := by have h5 := Qg1_3.out.len; have := SQ.out.1; omega
  have bh : hn ≤ 30000 := by have h5 := Qg2_3.out.len; have := SQ.out.2; omega
  go_wp2_with fail
  refine (rtext_any go ho gn gc hn hc (x / y) _ Qg1_3.out Qg2_3.out bg bh HU_3.out).mono ?_
  rintro e3 w3 ⟨rfl, hb3⟩
  have Xg_4 := hid (Yg_3.out.keep hb3)
  have Rg1_4 := hid (Qg1_3.out.below hb3)
  have Rg2_4 := hid (Qg2_3.out.below hb3)
  have HB_4 : Hid (Below w.heap.size w w3) := HC_3.out.trans (hb3.mono HC_3.out.size)
  have HT_4 := hid (HU_3.out.below hb3)
  have ltg := Xg_4.out.lt
  have cg0 := Xg_4.out.cell 0 _ rfl
  have cg1 := Xg_4.out.cell 1 _ rfl
  have cg2 := Xg_4.out.cell 2 _ rfl
  clear hb3
  go_wp2
  go_ret2
  exact ⟨rfl, HB_4.out⟩

set_option maxHeartbeats 2000000 in
set_option maxRecDepth 20000 in
theorem xDivide_zero (a b : ByteArray) (w : World) (x y : Rat) (hx : Hid (readL a.data.toList = some x)) (hy : Hid (readL b.data.toList = some y)) (ht : Tab w) (hz : Hid (isZ y.num.natAbs = true)) :
    Calls Tryd.prog 12 #[.string a, .string b] w fun e w' => e = .returned (.tuple #[.string ⟨#[]⟩, .int .i64 2]) ∧ Below w.heap.size w w' := by
  have sx := readL_small hx.out
  have sy := readL_small hy.out
  have HT_0 := hid ht
  clear ht
  go_enter Tryd.func12, Tryd.ntmps12
  go_wp2_with fail
  refine (both_yes a b _ x y hx hy).mono ?_
  rintro e0 w0 ⟨u, v, rfl, ⟨ao, n, capa, bo, m, capb, rfl, hr1, hr2⟩, ⟨co, p, capc, eo, q, capd, rfl, hr3, hr4⟩, hb0⟩
  obtain ⟨c1, c2, c5⟩ := boxes2 w0 #[.bool (negB x), .slice ao n capa, .slice bo m capb] #[.bool (negB y), .slice co p capc, .slice eo q capd] 60 60
  have b1 : n ≤ 300 := by have := hr1.len; have := sx.1; omega
  have b2 : m ≤ 300 := by have := hr2.len; have := sx.2; omega
  have b3 : p ≤ 300 := by have := hr3.len; have := sy.1; omega
  have b4 : q ≤ 300 := by have := hr4.len; have := sy.2; omega
  have XA_0 := hid c1
  have XB_0 := hid c2
  have R0_0 := hid (hr1.below c5)
  have R1_0 := hid (hr2.below c5)
  have R2_0 := hid (hr3.below c5)
  have R3_0 := hid (hr4.below c5)
  have HB_0 : Hid (Below w.heap.size w _) := hb0.trans (c5.mono hb0.size)
  have HT_1 := hid ((HT_0.out.below hb0).below c5)
  have SX := hid sx
  have SY := hid sy
  clear hb0 c1 c2 c5 hr1 hr2 hr3 hr4 HT_0 sx sy
  have ltA := XA_0.out.lt
  have cA0 := XA_0.out.cell 0 _ rfl
  have cA1 := XA_0.out.cell 1 _ rfl
  have cA2 := XA_0.out.cell 2 _ rfl
  have ltB := XB_0.out.lt
  have cB0 := XB_0.out.cell 0 _ rfl
  have cB1 := XB_0.out.cell 1 _ rfl
  have cB2 := XB_0.out.cell 2 _ rfl
  go_wp2_with fail
  refine (rdiv_no ao bo co eo n capa m capb p capc q capd x y _ R0_0.out R1_0.out R2_0.out R3_0.out (by omega) (by omega) (by omega) (by omega) hz.out).mono ?_
  rintro e2 w2 ⟨rfl, hb2⟩
  have XA_3 := hid (XA_0.out.keep hb2)
  have XB_3 := hid (XB_0.out.keep hb2)
  have R0_3 := hid (R0_0.out.below hb2)
  have R1_3 := hid (R1_0.out.below hb2)
  have R2_3 := hid (R2_0.out.below hb2)
  have R3_3 := hid (R3_0.out.below hb2)
  have HB_3 : Hid (Below w.heap.size w w2) := HB_0.out.trans (hb2.mono HB_0.out.size)
  have HT_3 := hid (HT_1.out.below hb2)
  clear ltA cA0 cA1 cA2 ltB cB0 cB1 cB2
  have ltA := XA_3.out.lt
  have cA0 := XA_3.out.cell 0 _ rfl
  have cA1 := XA_3.out.cell 1 _ rfl
  have cA2 := XA_3.out.cell 2 _ rfl
  have ltB := XB_3.out.lt
  have cB0 := XB_3.out.cell 0 _ rfl
  have cB1 := XB_3.out.cell 1 _ rfl
  have cB2 := XB_3.out.cell 2 _ rfl
  clear hb2
  clear ltA cA0 cA1 cA2 ltB cB0 cB1 cB2
  have Yg_3 := hid (bx_new w2 #[.bool false, .slice none 0 0, .slice none 0 0] 60)
  have HC_3 : Hid (Below w.heap.size w (w2.alloc (.cells #[.bool false, .slice none 0 0, .slice none 0 0] 60))) := HB_3.out.alloc HB_3.out.size (.cells #[.bool false, .slice none 0 0, .slice none 0 0] 60)
  have HU_3 := hid (HT_3.out.below ((Below.refl _ _).alloc (Nat.le_refl _) (.cells #[.bool false, .slice none 0 0, .slice none 0 0] 60)))
  go_wp2
  go_ret2
  exact ⟨rfl, HC_3.out⟩

set_option maxHeartbeats 2000000 in
set_option maxRecDepth 20000 in
theorem xCompare_yes (a b : ByteArray) (w : World) (x y : Rat) (hx : Hid (readL a.data.toList = some x)) (hy : Hid (readL b.data.toList = some y)) (ht : Tab w) :
    Calls Tryd.prog 35 #[.string a, .string b] w fun e w' => e = .returned (.tuple #[.int .i64 (cmpQ x y), .int .i64 0]) ∧ Below w.heap.size w w' := by
  have sx := readL_small hx.out
  have sy := readL_small hy.out
  have HT_0 := hid ht
  clear ht
  go_enter Tryd.func35, Tryd.ntmps35
  go_wp2_with fail
  refine (both_yes a b _ x y hx hy).mono ?_
  rintro e0 w0 ⟨u, v, rfl, ⟨ao, n, capa, bo, m, capb, rfl, hr1, hr2⟩, ⟨co, p, capc, eo, q, capd, rfl, hr3, hr4⟩, hb0⟩
  obtain ⟨c1, c2, c5⟩ := boxes2 w0 #[.bool (negB x), .slice ao n capa, .slice bo m capb] #[.bool (negB y), .slice co p capc, .slice eo q capd] 60 60
  have b1 : n ≤ 300 := by have := hr1.len; have := sx.1; omega
  have b2 : m ≤ 300 := by have := hr2.len; have := sx.2; omega
  have b3 : p ≤ 300 := by have := hr3.len; have := sy.1; omega
  have b4 : q ≤ 300 := by have := hr4.len; have := sy.2; omega
  have XA_0 := hid c1
  have XB_0 := hid c2
  have R0_0 := hid (hr1.below c5)
  have R1_0 := hid (hr2.below c5)
  have R2_0 := hid (hr3.below c5)
  have R3_0 := hid (hr4.below c5)
  have HB_0 : Hid (Below w.heap.size w _) := hb0.trans (c5.mono hb0.size)
  have HT_1 := hid ((HT_0.out.below hb0).below c5)
  have SX := hid sx
  have SY := hid sy
  clear hb0 c1 c2 c5 hr1 hr2 hr3 hr4 HT_0 sx sy
  have ltA := XA_0.out.lt
  have cA0 := XA_0.out.cell 0 _ rfl
  have cA1 := XA_0.out.cell 1 _ rfl
  have cA2 := XA_0.out.cell 2 _ rfl
  have ltB := XB_0.out.lt
  have cB0 := XB_0.out.cell 0 _ rfl
  have cB1 := XB_0.out.cell 1 _ rfl
  have cB2 := XB_0.out.cell 2 _ rfl
  go_wp2_with fail
  refine (rcmp_any ao bo co eo n capa m capb p capc q capd x y _ R0_0.out R1_0.out R2_0.out R3_0.out (by omega) (by omega) (by omega) (by omega)).mono ?_
  rintro e2 w2 ⟨rfl, hb2⟩
  have XA_3 := hid (XA_0.out.keep hb2)
  have XB_3 := hid (XB_0.out.keep hb2)
  have R0_3 := hid (R0_0.out.below hb2)
  have R1_3 := hid (R1_0.out.below hb2)
  have R2_3 := hid (R2_0.out.below hb2)
  have R3_3 := hid (R3_0.out.below hb2)
  have HB_3 : Hid (Below w.heap.size w w2) := HB_0.out.trans (hb2.mono HB_0.out.size)
  have HT_3 := hid (HT_1.out.below hb2)
  clear ltA cA0 cA1 cA2 ltB cB0 cB1 cB2
  have ltA := XA_3.out.lt
  have cA0 := XA_3.out.cell 0 _ rfl
  have cA1 := XA_3.out.cell 1 _ rfl
  have cA2 := XA_3.out.cell 2 _ rfl
  have ltB := XB_3.out.lt
  have cB0 := XB_3.out.cell 0 _ rfl
  have cB1 := XB_3.out.cell 1 _ rfl
  have cB2 := XB_3.out.cell 2 _ rfl
  clear hb2
  go_wp2
  go_ret2
  exact ⟨rfl, HB_3.out⟩

end Go.Proofs.YtigokanoflkinabDoor

