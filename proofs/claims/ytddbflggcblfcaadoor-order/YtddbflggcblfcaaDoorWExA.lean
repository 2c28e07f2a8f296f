/- exact.read, readBoth, Check: what texts are read as. (Laid by mkex.py.) -/
import Derived.Test.YtddbflggcblfcaaDoorWRd
namespace Go.Proofs.YtddbflggcblfcaaDoor
set_option linter.unusedSimpArgs false
set_option linter.unusedVariables false
open Go.RowKit Por

set_option maxHeartbeats 2000000 in
set_option maxRecDepth 20000 in
theorem read_no' (s : ByteArray) (w : World) (hm : s.size ≤ maxLen) (hq : Hid (readL s.data.toList = none)) :
    Calls Tryd.prog 82 #[.string s] w fun e w' => e = .returned (.tuple #[.agg #[.bool false, .slice none 0 0, .slice none 0 0], .int .i64 1]) ∧ Below w.heap.size w w' := by
  have XR_0 := hid (bx_new w #[.bool false, .slice none 0 0, .slice none 0 0] 76)
  have HB_0 := hid ((Below.refl _ w).alloc (Nat.le_refl _) (.cells #[.bool false, .slice none 0 0, .slice none 0 0] 76))
  go_enter Tryd.func82, Tryd.ntmps82
  go_wp2_with fail
  refine (rread_no s _ hm hq.out).mono ?_
  rintro e0 w0 ⟨rfl, hb0⟩
  have XR_1 := hid (XR_0.out.keep hb0)
  have HB_1 : Hid (Below w.heap.size w w0) := HB_0.out.trans (hb0.mono HB_0.out.size)
  have ltR := XR_1.out.lt
  have cR0 := XR_1.out.cell 0 _ rfl
  have zR0 := XR_1.out.frozen 0
  have cR1 := XR_1.out.cell 1 _ rfl
  have zR1 := XR_1.out.frozen 1
  have cR2 := XR_1.out.cell 2 _ rfl
  have zR2 := XR_1.out.frozen 2
  clear hb0
  have YR_1 := hid (bx_past XR_1.out (.cells #[.bool false, .slice none 0 0, .slice none 0 0] 76))
  have YP_1 := hid (bx_new w0 #[.bool false, .slice none 0 0, .slice none 0 0] 76)
  have HC_1 : Hid (Below w.heap.size w (w0.alloc (.cells #[.bool false, .slice none 0 0, .slice none 0 0] 76))) := HB_1.out.alloc HB_1.out.size (.cells #[.bool false, .slice none 0 0, .slice none 0 0] 76)
  go_wp2
  have Z := bx_past (XR_1.out.put3 (.bool false) (.slice none 0 0) (.slice none 0 0)) (.cells #[.bool false, .slice none 0 0, .slice none 0 0] 76)
  have z0 := Z.cell 0 _ rfl
  have z1 := Z.cell 1 _ rfl
  have z2 := Z.cell 2 _ rfl
  unfold wput3 at z0 z1 z2
  have BB := below_put3 HB_1.out (Nat.le_refl _) (.bool false) (.slice none 0 0) (.slice none 0 0)
  exact bodyPost_ret (v := .tuple #[.agg #[.bool false, .slice none 0 0, .slice none 0 0], .int .i64 1]) (by simp [results, Tryd.results82, go_sem, z0, z1, z2]) rfl ⟨rfl, BB.alloc BB.size _⟩

set_option maxHeartbeats 2000000 in
set_option maxRecDepth 20000 in
theorem read_yes' (s : ByteArray) (w : World) (q : Rat) (hq : Hid (readL s.data.toList = some q)) :
    Calls Tryd.prog 82 #[.string s] w fun e w' => ∃ v, e = .returned (.tuple #[v, .int .i64 0]) ∧ Frac w' v q ∧ Below w.heap.size w w' := by
  have XR_0 := hid (bx_new w #[.bool false, .slice none 0 0, .slice none 0 0] 76)
  have HB_0 := hid ((Below.refl _ w).alloc (Nat.le_refl _) (.cells #[.bool false, .slice none 0 0, .slice none 0 0] 76))
  go_enter Tryd.func82, Tryd.ntmps82
  go_wp2_with fail
  refine (rread_yes s _ q hq.out).mono ?_
  rintro e0 w0 ⟨v, rfl, ⟨uo, un, uc, yo, yn, yc, rfl, hr1, hr2⟩, hb0⟩
  have XR_1 := hid (XR_0.out.keep hb0)
  have HB_1 : Hid (Below w.heap.size w w0) := HB_0.out.trans (hb0.mono HB_0.out.size)
  have ltR := XR_1.out.lt
  have cR0 := XR_1.out.cell 0 _ rfl
  have zR0 := XR_1.out.frozen 0
  have cR1 := XR_1.out.cell 1 _ rfl
  have zR1 := XR_1.out.frozen 1
  have cR2 := XR_1.out.cell 2 _ rfl
  have zR2 := XR_1.out.frozen 2
  have H1 := hid hr1
  have H2 := hid hr2
  clear hb0 hr1 hr2
  have YR_1 := hid (bx_past XR_1.out (.cells #[.bool (negB q), .slice uo un uc, .slice yo yn yc] 76))
  have YP_1 := hid (bx_new w0 #[.bool (negB q), .slice uo un uc, .slice yo yn yc] 76)
  have HC_1 : Hid (Below w.heap.size w (w0.alloc (.cells #[.bool (negB q), .slice uo un uc, .slice yo yn yc] 76))) := HB_1.out.alloc HB_1.out.size (.cells #[.bool (negB q), .slice uo un uc, .slice yo yn yc] 76)
  go_wp2
  have Z := bx_past (XR_1.out.put3 (.bool (negB q)) (.slice uo un uc) (.slice yo yn yc)) (.cells #[.bool (negB q), .slice uo un uc, .slice yo yn yc] 76)
  have z0 := Z.cell 0 _ rfl
  have z1 := Z.cell 1 _ rfl
  have z2 := Z.cell 2 _ rfl
  unfold wput3 at z0 z1 z2
  have BB := below_put3 HB_1.out (Nat.le_refl _) (.bool (negB q)) (.slice uo un uc) (.slice yo yn yc)
  refine bodyPost_ret (v := .tuple #[.agg #[.bool (negB q), .slice uo un uc, .slice yo yn yc], .int .i64 0]) (by simp [results, Tryd.results82, go_sem, z0, z1, z2]) rfl ⟨_, rfl, ⟨uo, un, uc, yo, yn, yc, rfl, ?_, ?_⟩, BB.alloc BB.size _⟩
  · exact (H1.out.put3 XR_1.out (by decide) _ _ _).alloc _
  · exact (H2.out.put3 XR_1.out (by decide) _ _ _).alloc _

theorem read_yes (s : ByteArray) (w : World) (q : Rat) (hq : readL s.data.toList = some q) :
    Calls Tryd.prog 82 #[.string s] w fun e w' => ∃ v, e = .returned (.tuple #[v, .int .i64 0]) ∧ Frac w' v q ∧ Below w.heap.size w w' :=
  read_yes' s w q hq
theorem read_no (s : ByteArray) (w : World) (hm : s.size ≤ maxLen) (hq : readL s.data.toList = none) :
    Calls Tryd.prog 82 #[.string s] w fun e w' => e = .returned (.tuple #[.agg #[.bool false, .slice none 0 0, .slice none 0 0], .int .i64 1]) ∧ Below w.heap.size w w' :=
  read_no' s w hm hq

set_option maxHeartbeats 2000000 in
set_option maxRecDepth 20000 in
theorem both_no1 (a b : ByteArray) (w : World) (hm : a.size ≤ maxLen) (hq : Hid (readL a.data.toList = none)) :
    Calls Tryd.prog 50 #[.string a, .string b] w fun e w' => e = .returned (.tuple #[.agg #[.bool false, .slice none 0 0, .slice none 0 0], .agg #[.bool false, .slice none 0 0, .slice none 0 0], .int .i64 1]) ∧ Below w.heap.size w w' := by
  obtain ⟨c1, c2, c5⟩ := boxes2 w #[.bool false, .slice none 0 0, .slice none 0 0] #[.bool false, .slice none 0 0, .slice none 0 0] 76 76
  have XR_0 := hid c1
  have XS_0 := hid c2
  have HB_0 := hid c5
  clear c1 c2 c5
  go_enter Tryd.func50, Tryd.ntmps50
  go_wp2_with fail
  refine (read_no a _ hm hq.out).mono ?_
  rintro e0 w0 ⟨rfl, hb0⟩
  have XR_1 := hid (XR_0.out.keep hb0)
  have XS_1 := hid (XS_0.out.keep hb0)
  have HB_1 : Hid (Below w.heap.size w w0) := HB_0.out.trans (hb0.mono HB_0.out.size)
  have ltR := XR_1.out.lt
  have cR0 := XR_1.out.cell 0 _ rfl
  have zR0 := XR_1.out.frozen 0
  have cR1 := XR_1.out.cell 1 _ rfl
  have zR1 := XR_1.out.frozen 1
  have cR2 := XR_1.out.cell 2 _ rfl
  have zR2 := XR_1.out.frozen 2
  have ltS := XS_1.out.lt
  have cS0 := XS_1.out.cell 0 _ rfl
  have zS0 := XS_1.out.frozen 0
  have cS1 := XS_1.out.cell 1 _ rfl
  have zS1 := XS_1.out.frozen 1
  have cS2 := XS_1.out.cell 2 _ rfl
  have zS2 := XS_1.out.frozen 2
  clear hb0
  have YR_1 := hid (bx_past XR_1.out (.cells #[.bool false, .slice none 0 0, .slice none 0 0] 76))
  have YS_1 := hid (bx_past XS_1.out (.cells #[.bool false, .slice none 0 0, .slice none 0 0] 76))
  have Yf_1 := hid (bx_new w0 #[.bool false, .slice none 0 0, .slice none 0 0] 76)
  have HC_1 : Hid (Below w.heap.size w (w0.alloc (.cells #[.bool false, .slice none 0 0, .slice none 0 0] 76))) := HB_1.out.alloc HB_1.out.size (.cells #[.bool false, .slice none 0 0, .slice none 0 0] 76)
  go_wp2
  have P1 := XR_1.out.put3 (.bool false) (.slice none 0 0) (.slice none 0 0)
  have P2 := (XS_1.out.put3_other (.bool false) (.slice none 0 0) (.slice none 0 0) (by omega : w.heap.size ≠ w.heap.size + 1)).put3 (.bool false) (.slice none 0 0) (.slice none 0 0)
  have Z := bx_past (P1.put3_other (.bool false) (.slice none 0 0) (.slice none 0 0) (by omega : w.heap.size + 1 ≠ w.heap.size)) (.cells #[.bool false, .slice none 0 0, .slice none 0 0] 76)
  have Y := bx_past P2 (.cells #[.bool false, .slice none 0 0, .slice none 0 0] 76)
  have z0 := Z.cell 0 _ rfl
  have y0 := Y.cell 0 _ rfl
  have z1 := Z.cell 1 _ rfl
  have y1 := Y.cell 1 _ rfl
  have z2 := Z.cell 2 _ rfl
  have y2 := Y.cell 2 _ rfl
  unfold wput3 at z0 z1 z2 y0 y1 y2
  have BB := below_put3 (below_put3 HB_1.out (Nat.le_refl _) (.bool false) (.slice none 0 0) (.slice none 0 0)) (by omega : w.heap.size ≤ w.heap.size + 1) (.bool false) (.slice none 0 0) (.slice none 0 0)
  exact bodyPost_ret (v := .tuple #[.agg #[.bool false, .slice none 0 0, .slice none 0 0], .agg #[.bool false, .slice none 0 0, .slice none 0 0], .int .i64 1]) (by simp [results, Tryd.results50, go_sem, z0, z1, z2, y0, y1, y2]) rfl ⟨rfl, BB.alloc BB.size _⟩

set_option maxHeartbeats 2000000 in
set_option maxRecDepth 20000 in
theorem both_no2 (a b : ByteArray) (w : World) (x : Rat) (hm : b.size ≤ maxLen) (hx : Hid (readL a.data.toList = some x)) (hq : Hid (readL b.data.toList = none)) :
    Calls Tryd.prog 50 #[.string a, .string b] w fun e w' => e = .returned (.tuple #[.agg #[.bool false, .slice none 0 0, .slice none 0 0], .agg #[.bool false, .slice none 0 0, .slice none 0 0], .int .i64 1]) ∧ Below w.heap.size w w' := by
  obtain ⟨c1, c2, c5⟩ := boxes2 w #[.bool false, .slice none 0 0, .slice none 0 0] #[.bool false, .slice none 0 0, .slice none 0 0] 76 76
  have XR_0 := hid c1
  have XS_0 := hid c2
  have HB_0 := hid c5
  clear c1 c2 c5
  go_enter Tryd.func50, Tryd.ntmps50
  go_wp2_with fail
  refine (read_yes a _ x hx.out).mono ?_
  rintro e0 w0 ⟨v0, rfl, ⟨fa, fb, fc, fd, fe, ff, rfl, hr0, hs0⟩, hb0⟩
  have XR_1 := hid (XR_0.out.keep hb0)
  have XS_1 := hid (XS_0.out.keep hb0)
  have HB_1 : Hid (Below w.heap.size w w0) := HB_0.out.trans (hb0.mono HB_0.out.size)
  have ltR := XR_1.out.lt
  have cR0 := XR_1.out.cell 0 _ rfl
  have zR0 := XR_1.out.frozen 0
  have cR1 := XR_1.out.cell 1 _ rfl
  have zR1 := XR_1.out.frozen 1
  have cR2 := XR_1.out.cell 2 _ rfl
  have zR2 := XR_1.out.frozen 2
  have ltS := XS_1.out.lt
  have cS0 := XS_1.out.cell 0 _ rfl
  have zS0 := XS_1.out.frozen 0
  have cS1 := XS_1.out.cell 1 _ rfl
  have zS1 := XS_1.out.frozen 1
  have cS2 := XS_1.out.cell 2 _ rfl
  have zS2 := XS_1.out.frozen 2
  have Rf1_1 := hid hr0
  have Rf2_1 := hid hs0
  clear hb0 hr0 hs0
  have YR_1 := hid (bx_past XR_1.out (.cells #[.bool (negB x), .slice fa fb fc, .slice fd fe ff] 76))
  have YS_1 := hid (bx_past XS_1.out (.cells #[.bool (negB x), .slice fa fb fc, .slice fd fe ff] 76))
  have Yf_1 := hid (bx_new w0 #[.bool (negB x), .slice fa fb fc, .slice fd fe ff] 76)
  have Qf1_1 := hid (Rf1_1.out.alloc (.cells #[.bool (negB x), .slice fa fb fc, .slice fd fe ff] 76))
  have Qf2_1 := hid (Rf2_1.out.alloc (.cells #[.bool (negB x), .slice fa fb fc, .slice fd fe ff] 76))
  have HC_1 : Hid (Below w.heap.size w (w0.alloc (.cells #[.bool (negB x), .slice fa fb fc, .slice fd fe ff] 76))) := HB_1.out.alloc HB_1.out.size (.cells #[.bool (negB x), .slice fa fb fc, .slice fd fe ff] 76)
  go_wp2_with fail
  refine (read_no b _ hm hq.out).mono ?_
  rintro e1 w1 ⟨rfl, hb1⟩
  have XR_2 := hid (YR_1.out.keep hb1)
  have XS_2 := hid (YS_1.out.keep hb1)
  have Xf_2 := hid (Yf_1.out.keep hb1)
  have Rf1_2 := hid (Qf1_1.out.below hb1)
  have Rf2_2 := hid (Qf2_1.out.below hb1)
  have HB_2 : Hid (Below w.heap.size w w1) := HC_1.out.trans (hb1.mono HC_1.out.size)
  clear ltR cR0 zR0 cR1 zR1 cR2 zR2 ltS cS0 zS0 cS1 zS1 cS2 zS2
  have ltR := XR_2.out.lt
  have cR0 := XR_2.out.cell 0 _ rfl
  have zR0 := XR_2.out.frozen 0
  have cR1 := XR_2.out.cell 1 _ rfl
  have zR1 := XR_2.out.frozen 1
  have cR2 := XR_2.out.cell 2 _ rfl
  have zR2 := XR_2.out.frozen 2
  have ltS := XS_2.out.lt
  have cS0 := XS_2.out.cell 0 _ rfl
  have zS0 := XS_2.out.frozen 0
  have cS1 := XS_2.out.cell 1 _ rfl
  have zS1 := XS_2.out.frozen 1
  have cS2 := XS_2.out.cell 2 _ rfl
  have zS2 := XS_2.out.frozen 2
  have ltf := Xf_2.out.lt
  have cf0 := Xf_2.out.cell 0 _ rfl
  have cf1 := Xf_2.out.cell 1 _ rfl
  have cf2 := Xf_2.out.cell 2 _ rfl
  clear hb1
  have YR_2 := hid (bx_past XR_2.out (.cells #[.bool false, .slice none 0 0, .slice none 0 0] 76))
  have YS_2 := hid (bx_past XS_2.out (.cells #[.bool false, .slice none 0 0, .slice none 0 0] 76))
  have Yf_2 := hid (bx_past Xf_2.out (.cells #[.bool false, .slice none 0 0, .slice none 0 0] 76))
  have Yg_2 := hid (bx_new w1 #[.bool false, .slice none 0 0, .slice none 0 0] 76)
  have Qf1_2 := hid (Rf1_2.out.alloc (.cells #[.bool false, .slice none 0 0, .slice none 0 0] 76))
  have Qf2_2 := hid (Rf2_2.out.alloc (.cells #[.bool false, .slice none 0 0, .slice none 0 0] 76))
  have HC_2 : Hid (Below w.heap.size w (w1.alloc (.cells #[.bool false, .slice none 0 0, .slice none 0 0] 76))) := HB_2.out.alloc HB_2.out.size (.cells #[.bool false, .slice none 0 0, .slice none 0 0] 76)
  go_wp2
  have P1 := XR_2.out.put3 (.bool false) (.slice none 0 0) (.slice none 0 0)
  have P2 := (XS_2.out.put3_other (.bool false) (.slice none 0 0) (.slice none 0 0) (by omega : w.heap.size ≠ w.heap.size + 1)).put3 (.bool false) (.slice none 0 0) (.slice none 0 0)
  have Z := bx_past (P1.put3_other (.bool false) (.slice none 0 0) (.slice none 0 0) (by omega : w.heap.size + 1 ≠ w.heap.size)) (.cells #[.bool false, .slice none 0 0, .slice none 0 0] 76)
  have Y := bx_past P2 (.cells #[.bool false, .slice none 0 0, .slice none 0 0] 76)
  have z0 := Z.cell 0 _ rfl
  have y0 := Y.cell 0 _ rfl
  have z1 := Z.cell 1 _ rfl
  have y1 := Y.cell 1 _ rfl
  have z2 := Z.cell 2 _ rfl
  have y2 := Y.cell 2 _ rfl
  unfold wput3 at z0 z1 z2 y0 y1 y2
  have BB := below_put3 (below_put3 HB_2.out (Nat.le_refl _) (.bool false) (.slice none 0 0) (.slice none 0 0)) (by omega : w.heap.size ≤ w.heap.size + 1) (.bool false) (.slice none 0 0) (.slice none 0 0)
  exact bodyPost_ret (v := .tuple #[.agg #[.bool false, .slice none 0 0, .slice none 0 0], .agg #[.bool false, .slice none 0 0, .slice none 0 0], .int .i64 1]) (by simp [results, Tryd.results50, go_sem, z0, z1, z2, y0, y1, y2]) rfl ⟨rfl, BB.alloc BB.size _⟩

end Go.Proofs.YtddbflggcblfcaaDoor
