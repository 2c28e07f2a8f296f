/- portionref.two, Check: of any texts. (Laid by mkrefo.py.) -/
import Derived.Test.YtddbflggcblfcaaDoorRefN
namespace Go.Proofs.YtddbflggcblfcaaDoor
set_option linter.unusedSimpArgs false
set_option linter.unusedVariables false
open Go.RowKit Por

theorem pread_some (s : ByteArray) (w : World) (hmax : s.size ≤ maxLen) :
    Calls Tryd.prog 93 #[.string s] w fun e w' => ∃ ok nb na nn nc oa on oc, e = .returned (.tuple #[.agg #[.bool nb, .slice na nn nc, .slice oa on oc], .bool ok]) ∧ Below w.heap.size w w' := by
  refine (pread_any s w hmax).mono ?_
  intro e w' h
  cases hq : readL s.data.toList with
  | none => rw [hq] at h; obtain ⟨nb, na, nn, nc, oa, on, oc, rfl, hb⟩ := h; exact ⟨_, _, _, _, _, _, _, _, rfl, hb⟩
  | some q => rw [hq] at h; obtain ⟨v, rfl, ⟨ao, n, capa, bo, k, capb, rfl, _, _⟩, hb⟩ := h; exact ⟨_, _, _, _, _, _, _, _, rfl, hb⟩

set_option maxHeartbeats 2000000 in
set_option maxRecDepth 20000 in
theorem ptwo_yes (a b : ByteArray) (w : World) (x y : Rat) (hx : Hid (readL a.data.toList = some x)) (hy : Hid (readL b.data.toList = some y)) :
    Calls Tryd.prog 53 #[.string a, .string b] w fun e w' => ∃ u v, e = .returned (.tuple #[u, v, .bool true]) ∧ PNv w' u (negB x) x.num.natAbs x.den ∧ PNv w' v (negB y) y.num.natAbs y.den ∧ Below w.heap.size w w' := by
  obtain ⟨c1, c2, c5⟩ := boxes2 w #[.bool false, .slice none 0 0, .slice none 0 0] #[.bool false, .slice none 0 0, .slice none 0 0] 82 82
  have XR_0 := hid c1
  have XS_0 := hid c2
  have HB_0 := hid c5
  clear c1 c2 c5
  go_enter Tryd.func53, Tryd.ntmps53
  go_wp2_with fail
  refine (pread_yes a _ x hx.out).mono ?_
  rintro e0 w0 ⟨v0, rfl, ⟨fa, fb, fc, fd, fe, ff, rfl, hr0, hs0⟩, hb0⟩
  have XR_1 := hid (XR_0.out.keep hb0)
  have XS_1 := hid (XS_0.out.keep hb0)
  have HB_1 : Hid (Below w.heap.size w w0) := HB_0.out.trans (hb0.mono HB_0.out.size)
  have ltR := XR_1.out.lt
  have cR0 := XR_1.out.cell 0 _ rfl
  have zR0 := XR_1.out.frozen 0
  have cR1 := XR_1.out.cell 1 _ rfl
  have zR1 := XR_1.out.frozen 1
  have cR2 := XR_1.out.cell 2 _ rfl
  have zR2 := XR_1.out.frozen 2
  have ltS := XS_1.out.lt
  have cS0 := XS_1.out.cell 0 _ rfl
  have zS0 := XS_1.out.frozen 0
  have cS1 := XS_1.out.cell 1 _ rfl
  have zS1 := XS_1.out.frozen 1
  have cS2 := XS_1.out.cell 2 _ rfl
  have zS2 := XS_1.out.frozen 2
  have Rf1_1 := hid hr0
  have Rf2_1 := hid hs0
  clear hb0 hr0 hs0
  have YR_1 := hid (bx_past XR_1.out (.cells #[.bool (negB x), .slice fa fb fc, .slice fd fe ff] 82))
  have YS_1 := hid (bx_past XS_1.out (.cells #[.bool (negB x), .slice fa fb fc, .slice fd fe ff] 82))
  have Yf_1 := hid (bx_new w0 #[.bool (negB x), .slice fa fb fc, .slice fd fe ff] 82)
  have Qf1_1 := hid (Rf1_1.out.alloc (.cells #[.bool (negB x), .slice fa fb fc, .slice fd fe ff] 82))
  have Qf2_1 := hid (Rf2_1.out.alloc (.cells #[.bool (negB x), .slice fa fb fc, .slice fd fe ff] 82))
  have HC_1 : Hid (Below w.heap.size w (w0.alloc (.cells #[.bool (negB x), .slice fa fb fc, .slice fd fe ff] 82))) := HB_1.out.alloc HB_1.out.size (.cells #[.bool (negB x), .slice fa fb fc, .slice fd fe ff] 82)
  go_wp2_with fail
  refine (pread_yes b _ y hy.out).mono ?_
  rintro e1 w1 ⟨v1, rfl, ⟨ga, gb, gc, gd, ge, gf, rfl, hr1, hs1⟩, hb1⟩
  have XR_2 := hid (YR_1.out.keep hb1)
  have XS_2 := hid (YS_1.out.keep hb1)
  have Xf_2 := hid (Yf_1.out.keep hb1)
  have Rf1_2 := hid (Qf1_1.out.below hb1)
  have Rf2_2 := hid (Qf2_1.out.below hb1)
  have HB_2 : Hid (Below w.heap.size w w1) := HC_1.out.trans (hb1.mono HC_1.out.size)
  clear ltR cR0 zR0 cR1 zR1 cR2 zR2 ltS cS0 zS0 cS1 zS1 cS2 zS2
  have ltR := XR_2.out.lt
  have cR0 := XR_2.out.cell 0 _ rfl
  have zR0 := XR_2.out.frozen 0
  have cR1 := XR_2.out.cell 1 _ rfl
  have zR1 := XR_2.out.frozen 1
  have cR2 := XR_2.out.cell 2 _ rfl
  have zR2 := XR_2.out.frozen 2
  have ltS := XS_2.out.lt
  have cS0 := XS_2.out.cell 0 _ rfl
  have zS0 := XS_2.out.frozen 0
  have cS1 := XS_2.out.cell 1 _ rfl
  have zS1 := XS_2.out.frozen 1
  have cS2 := XS_2.out.cell 2 _ rfl
  have zS2 := XS_2.out.frozen 2
  have ltf := Xf_2.out.lt
  have cf0 := Xf_2.out.cell 0 _ rfl
  have cf1 := Xf_2.out.cell 1 _ rfl
  have cf2 := Xf_2.out.cell 2 _ rfl
  have Rg1_2 := hid hr1
  have Rg2_2 := hid hs1
  clear hb1 hr1 hs1
  have YR_2 := hid (bx_past XR_2.out (.cells #[.bool (negB y), .slice ga gb gc, .slice gd ge gf] 82))
  have YS_2 := hid (bx_past XS_2.out (.cells #[.bool (negB y), .slice ga gb gc, .slice gd ge gf] 82))
  have Yf_2 := hid (bx_past Xf_2.out (.cells #[.bool (negB y), .slice ga gb gc, .slice gd ge gf] 82))
  have Yg_2 := hid (bx_new w1 #[.bool (negB y), .slice ga gb gc, .slice gd ge gf] 82)
  have Qf1_2 := hid (Rf1_2.out.alloc (.cells #[.bool (negB y), .slice ga gb gc, .slice gd ge gf] 82))
  have Qf2_2 := hid (Rf2_2.out.alloc (.cells #[.bool (negB y), .slice ga gb gc, .slice gd ge gf] 82))
  have Qg1_2 := hid (Rg1_2.out.alloc (.cells #[.bool (negB y), .slice ga gb gc, .slice gd ge gf] 82))
  have Qg2_2 := hid (Rg2_2.out.alloc (.cells #[.bool (negB y), .slice ga gb gc, .slice gd ge gf] 82))
  have HC_2 : Hid (Below w.heap.size w (w1.alloc (.cells #[.bool (negB y), .slice ga gb gc, .slice gd ge gf] 82))) := HB_2.out.alloc HB_2.out.size (.cells #[.bool (negB y), .slice ga gb gc, .slice gd ge gf] 82)
  go_wp2_with fail
  obtain ⟨V, hV⟩ : ∃ V, V = (w1.alloc (.cells #[.bool (negB y), .slice ga gb gc, .slice gd ge gf] 82)) := ⟨_, rfl⟩
  rw [← hV] at YR_2 YS_2 Yf_2 Yg_2 Qf1_2 Qf2_2 Qg1_2 Qg2_2 HC_2 ⊢
  have cR0 := YR_2.out.cell 0 _ rfl
  have cR1 := YR_2.out.cell 1 _ rfl
  have cR2 := YR_2.out.cell 2 _ rfl
  have zR0 := YR_2.out.frozen 0
  have zR1 := YR_2.out.frozen 1
  have zR2 := YR_2.out.frozen 2
  have cS0 := YS_2.out.cell 0 _ rfl
  have cS1 := YS_2.out.cell 1 _ rfl
  have cS2 := YS_2.out.cell 2 _ rfl
  have zS0 := YS_2.out.frozen 0
  have zS1 := YS_2.out.frozen 1
  have zS2 := YS_2.out.frozen 2
  have cf0 := Yf_2.out.cell 0 _ rfl
  have cf1 := Yf_2.out.cell 1 _ rfl
  have cf2 := Yf_2.out.cell 2 _ rfl
  have cg0 := Yg_2.out.cell 0 _ rfl
  have cg1 := Yg_2.out.cell 1 _ rfl
  have cg2 := Yg_2.out.cell 2 _ rfl
  clear hV
  go_region
  go_wp2
  have P1 := YR_2.out.put3 (.bool (negB x)) (.slice fa fb fc) (.slice fd fe ff)
  have P0 := YS_2.out.put3_other (.bool (negB x)) (.slice fa fb fc) (.slice fd fe ff) (by omega : w.heap.size ≠ w.heap.size + 1)
  have P2 := (P0.put3 (.bool (negB y)) (.slice ga gb gc) (.slice gd ge gf)).drew
  have P3 := (P1.put3_other (.bool (negB y)) (.slice ga gb gc) (.slice gd ge gf) (by omega : w.heap.size + 1 ≠ w.heap.size)).drew
  have y0 := P2.cell 0 _ rfl
  have x0 := P3.cell 0 _ rfl
  have y1 := P2.cell 1 _ rfl
  have x1 := P3.cell 1 _ rfl
  have y2 := P2.cell 2 _ rfl
  have x2 := P3.cell 2 _ rfl
  unfold wput3 at x0 x1 x2 y0 y1 y2
  have BB := (below_put3 (below_put3 HC_2.out (Nat.le_refl _) (.bool (negB x)) (.slice fa fb fc) (.slice fd fe ff)) (by omega : w.heap.size ≤ w.heap.size + 1) (.bool (negB y)) (.slice ga gb gc) (.slice gd ge gf)).drew
  refine bodyPost_ret (v := .tuple #[.agg #[.bool (negB x), .slice fa fb fc, .slice fd fe ff], .agg #[.bool (negB y), .slice ga gb gc, .slice gd ge gf], .bool true]) (by simp [results, Tryd.results53, go_sem, x0, x1, x2, y0, y1, y2]) rfl ⟨_, _, rfl, ⟨fa, fb, fc, fd, fe, ff, rfl, ?_, ?_⟩, ⟨ga, gb, gc, gd, ge, gf, rfl, ?_, ?_⟩, BB⟩
  · exact ((Qf1_2.out.put3 YR_2.out (by decide) (.bool (negB x)) (.slice fa fb fc) (.slice fd fe ff)).put3 P0 (by decide) (.bool (negB y)) (.slice ga gb gc) (.slice gd ge gf)).drew
  · exact ((Qf2_2.out.put3 YR_2.out (by decide) (.bool (negB x)) (.slice fa fb fc) (.slice fd fe ff)).put3 P0 (by decide) (.bool (negB y)) (.slice ga gb gc) (.slice gd ge gf)).drew
  · exact ((Qg1_2.out.put3 YR_2.out (by decide) (.bool (negB x)) (.slice fa fb fc) (.slice fd fe ff)).put3 P0 (by decide) (.bool (negB y)) (.slice ga gb gc) (.slice gd ge gf)).drew
  · exact ((Qg2_2.out.put3 YR_2.out (by decide) (.bool (negB x)) (.slice fa fb fc) (.slice fd fe ff)).put3 P0 (by decide) (.bool (negB y)) (.slice ga gb gc) (.slice gd ge gf)).drew

set_option maxHeartbeats 2000000 in
set_option maxRecDepth 20000 in
theorem ptwo_no1 (a b : ByteArray) (w : World) (hma : a.size ≤ maxLen) (hmb : b.size ≤ maxLen) (hq : Hid (readL a.data.toList = none)) :
    Calls Tryd.prog 53 #[.string a, .string b] w fun e w' => ∃ fn fa fb fc fd fe ff gn ga gb gc gd ge gf, e = .returned (.tuple #[.agg #[.bool fn, .slice fa fb fc, .slice fd fe ff], .agg #[.bool gn, .slice ga gb gc, .slice gd ge gf], .bool false]) ∧ Below w.heap.size w w' := by
  obtain ⟨c1, c2, c5⟩ := boxes2 w #[.bool false, .slice none 0 0, .slice none 0 0] #[.bool false, .slice none 0 0, .slice none 0 0] 82 82
  have XR_0 := hid c1
  have XS_0 := hid c2
  have HB_0 := hid c5
  clear c1 c2 c5
  go_enter Tryd.func53, Tryd.ntmps53
  go_wp2_with fail
  refine (pread_no a _ hma hq.out).mono ?_
  rintro e0 w0 ⟨fn, fa, fb, fc, fd, fe, ff, rfl, hb0⟩
  have XR_1 := hid (XR_0.out.keep hb0)
  have XS_1 := hid (XS_0.out.keep hb0)
  have HB_1 : Hid (Below w.heap.size w w0) := HB_0.out.trans (hb0.mono HB_0.out.size)
  have ltR := XR_1.out.lt
  have cR0 := XR_1.out.cell 0 _ rfl
  have zR0 := XR_1.out.frozen 0
  have cR1 := XR_1.out.cell 1 _ rfl
  have zR1 := XR_1.out.frozen 1
  have cR2 := XR_1.out.cell 2 _ rfl
  have zR2 := XR_1.out.frozen 2
  have ltS := XS_1.out.lt
  have cS0 := XS_1.out.cell 0 _ rfl
  have zS0 := XS_1.out.frozen 0
  have cS1 := XS_1.out.cell 1 _ rfl
  have zS1 := XS_1.out.frozen 1
  have cS2 := XS_1.out.cell 2 _ rfl
  have zS2 := XS_1.out.frozen 2
  clear hb0
  have YR_1 := hid (bx_past XR_1.out (.cells #[.bool fn, .slice fa fb fc, .slice fd fe ff] 82))
  have YS_1 := hid (bx_past XS_1.out (.cells #[.bool fn, .slice fa fb fc, .slice fd fe ff] 82))
  have Yf_1 := hid (bx_new w0 #[.bool fn, .slice fa fb fc, .slice fd fe ff] 82)
  have HC_1 : Hid (Below w.heap.size w (w0.alloc (.cells #[.bool fn, .slice fa fb fc, .slice fd fe ff] 82))) := HB_1.out.alloc HB_1.out.size (.cells #[.bool fn, .slice fa fb fc, .slice fd fe ff] 82)
  go_wp2_with fail
  refine (pread_some b _ hmb).mono ?_
  rintro e1 w1 ⟨ok, gn, ga, gb, gc, gd, ge, gf, rfl, hb1⟩
  have XR_2 := hid (YR_1.out.keep hb1)
  have XS_2 := hid (YS_1.out.keep hb1)
  have Xf_2 := hid (Yf_1.out.keep hb1)
  have HB_2 : Hid (Below w.heap.size w w1) := HC_1.out.trans (hb1.mono HC_1.out.size)
  clear ltR cR0 zR0 cR1 zR1 cR2 zR2 ltS cS0 zS0 cS1 zS1 cS2 zS2
  have ltR := XR_2.out.lt
  have cR0 := XR_2.out.cell 0 _ rfl
  have zR0 := XR_2.out.frozen 0
  have cR1 := XR_2.out.cell 1 _ rfl
  have zR1 := XR_2.out.frozen 1
  have cR2 := XR_2.out.cell 2 _ rfl
  have zR2 := XR_2.out.frozen 2
  have ltS := XS_2.out.lt
  have cS0 := XS_2.out.cell 0 _ rfl
  have zS0 := XS_2.out.frozen 0
  have cS1 := XS_2.out.cell 1 _ rfl
  have zS1 := XS_2.out.frozen 1
  have cS2 := XS_2.out.cell 2 _ rfl
  have zS2 := XS_2.out.frozen 2
  have ltf := Xf_2.out.lt
  have cf0 := Xf_2.out.cell 0 _ rfl
  have cf1 := Xf_2.out.cell 1 _ rfl
  have cf2 := Xf_2.out.cell 2 _ rfl
  clear hb1
  have YR_2 := hid (bx_past XR_2.out (.cells #[.bool gn, .slice ga gb gc, .slice gd ge gf] 82))
  have YS_2 := hid (bx_past XS_2.out (.cells #[.bool gn, .slice ga gb gc, .slice gd ge gf] 82))
  have Yf_2 := hid (bx_past Xf_2.out (.cells #[.bool gn, .slice ga gb gc, .slice gd ge gf] 82))
  have Yg_2 := hid (bx_new w1 #[.bool gn, .slice ga gb gc, .slice gd ge gf] 82)
  have HC_2 : Hid (Below w.heap.size w (w1.alloc (.cells #[.bool gn, .slice ga gb gc, .slice gd ge gf] 82))) := HB_2.out.alloc HB_2.out.size (.cells #[.bool gn, .slice ga gb gc, .slice gd ge gf] 82)
  go_wp2_with fail
  obtain ⟨V, hV⟩ : ∃ V, V = (w1.alloc (.cells #[.bool gn, .slice ga gb gc, .slice gd ge gf] 82)) := ⟨_, rfl⟩
  rw [← hV] at YR_2 YS_2 Yf_2 Yg_2 HC_2 ⊢
  have cR0 := YR_2.out.cell 0 _ rfl
  have cR1 := YR_2.out.cell 1 _ rfl
  have cR2 := YR_2.out.cell 2 _ rfl
  have zR0 := YR_2.out.frozen 0
  have zR1 := YR_2.out.frozen 1
  have zR2 := YR_2.out.frozen 2
  have cS0 := YS_2.out.cell 0 _ rfl
  have cS1 := YS_2.out.cell 1 _ rfl
  have cS2 := YS_2.out.cell 2 _ rfl
  have zS0 := YS_2.out.frozen 0
  have zS1 := YS_2.out.frozen 1
  have zS2 := YS_2.out.frozen 2
  have cf0 := Yf_2.out.cell 0 _ rfl
  have cf1 := Yf_2.out.cell 1 _ rfl
  have cf2 := Yf_2.out.cell 2 _ rfl
  have cg0 := Yg_2.out.cell 0 _ rfl
  have cg1 := Yg_2.out.cell 1 _ rfl
  have cg2 := Yg_2.out.cell 2 _ rfl
  clear hV
  go_region
  go_wp2
  have P1 := YR_2.out.put3 (.bool fn) (.slice fa fb fc) (.slice fd fe ff)
  have P0 := YS_2.out.put3_other (.bool fn) (.slice fa fb fc) (.slice fd fe ff) (by omega : w.heap.size ≠ w.heap.size + 1)
  have P2 := (P0.put3 (.bool gn) (.slice ga gb gc) (.slice gd ge gf)).drew
  have P3 := (P1.put3_other (.bool gn) (.slice ga gb gc) (.slice gd ge gf) (by omega : w.heap.size + 1 ≠ w.heap.size)).drew
  have y0 := P2.cell 0 _ rfl
  have x0 := P3.cell 0 _ rfl
  have y1 := P2.cell 1 _ rfl
  have x1 := P3.cell 1 _ rfl
  have y2 := P2.cell 2 _ rfl
  have x2 := P3.cell 2 _ rfl
  unfold wput3 at x0 x1 x2 y0 y1 y2
  have BB := (below_put3 (below_put3 HC_2.out (Nat.le_refl _) (.bool fn) (.slice fa fb fc) (.slice fd fe ff)) (by omega : w.heap.size ≤ w.heap.size + 1) (.bool gn) (.slice ga gb gc) (.slice gd ge gf)).drew
  exact bodyPost_ret (v := .tuple #[.agg #[.bool fn, .slice fa fb fc, .slice fd fe ff], .agg #[.bool gn, .slice ga gb gc, .slice gd ge gf], .bool false]) (by simp [results, Tryd.results53, go_sem, x0, x1, x2, y0, y1, y2]) rfl ⟨_, _, _, _, _, _, _, _, _, _, _, _, _, _, rfl, BB⟩

set_option maxHeartbeats 2000000 in
set_option maxRecDepth 20000 in
theorem ptwo_no2 (a b : ByteArray) (w : World) (x : Rat) (hmb : b.size ≤ maxLen) (hx : Hid (readL a.data.toList = some x)) (hq : Hid (readL b.data.toList = none)) :
    Calls Tryd.prog 53 #[.string a, .string b] w fun e w' => ∃ fn fa fb fc fd fe ff gn ga gb gc gd ge gf, e = .returned (.tuple #[.agg #[.bool fn, .slice fa fb fc, .slice fd fe ff], .agg #[.bool gn, .slice ga gb gc, .slice gd ge gf], .bool false]) ∧ Below w.heap.size w w' := by
  obtain ⟨c1, c2, c5⟩ := boxes2 w #[.bool false, .slice none 0 0, .slice none 0 0] #[.bool false, .slice none 0 0, .slice none 0 0] 82 82
  have XR_0 := hid c1
  have XS_0 := hid c2
  have HB_0 := hid c5
  clear c1 c2 c5
  go_enter Tryd.func53, Tryd.ntmps53
  go_wp2_with fail
  refine (pread_yes a _ x hx.out).mono ?_
  rintro e0 w0 ⟨v0, rfl, ⟨fa, fb, fc, fd, fe, ff, rfl, hr0, hs0⟩, hb0⟩
  have XR_1 := hid (XR_0.out.keep hb0)
  have XS_1 := hid (XS_0.out.keep hb0)
  have HB_1 : Hid (Below w.heap.size w w0) := HB_0.out.trans (hb0.mono HB_0.out.size)
  have ltR := XR_1.out.lt
  have cR0 := XR_1.out.cell 0 _ rfl
  have zR0 := XR_1.out.frozen 0
  have cR1 := XR_1.out.cell 1 _ rfl
  have zR1 := XR_1.out.frozen 1
  have cR2 := XR_1.out.cell 2 _ rfl
  have zR2 := XR_1.out.frozen 2
  have ltS := XS_1.out.lt
  have cS0 := XS_1.out.cell 0 _ rfl
  have zS0 := XS_1.out.frozen 0
  have cS1 := XS_1.out.cell 1 _ rfl
  have zS1 := XS_1.out.frozen 1
  have cS2 := XS_1.out.cell 2 _ rfl
  have zS2 := XS_1.out.frozen 2
  have Rf1_1 := hid hr0
  have Rf2_1 := hid hs0
  clear hb0 hr0 hs0
  have YR_1 := hid (bx_past XR_1.out (.cells #[.bool (negB x), .slice fa fb fc, .slice fd fe ff] 82))
  have YS_1 := hid (bx_past XS_1.out (.cells #[.bool (negB x), .slice fa fb fc, .slice fd fe ff] 82))
  have Yf_1 := hid (bx_new w0 #[.bool (negB x), .slice fa fb fc, .slice fd fe ff] 82)
  have Qf1_1 := hid (Rf1_1.out.alloc (.cells #[.bool (negB x), .slice fa fb fc, .slice fd fe ff] 82))
  have Qf2_1 := hid (Rf2_1.out.alloc (.cells #[.bool (negB x), .slice fa fb fc, .slice fd fe ff] 82))
  have HC_1 : Hid (Below w.heap.size w (w0.alloc (.cells #[.bool (negB x), .slice fa fb fc, .slice fd fe ff] 82))) := HB_1.out.alloc HB_1.out.size (.cells #[.bool (negB x), .slice fa fb fc, .slice fd fe ff] 82)
  go_wp2_with fail
  refine (pread_no b _ hmb hq.out).mono ?_
  rintro e1 w1 ⟨gn, ga, gb, gc, gd, ge, gf, rfl, hb1⟩
  have XR_2 := hid (YR_1.out.keep hb1)
  have XS_2 := hid (YS_1.out.keep hb1)
  have Xf_2 := hid (Yf_1.out.keep hb1)
  have Rf1_2 := hid (Qf1_1.out.below hb1)
  have Rf2_2 := hid (Qf2_1.out.below hb1)
  have HB_2 : Hid (Below w.heap.size w w1) := HC_1.out.trans (hb1.mono HC_1.out.size)
  clear ltR cR0 zR0 cR1 zR1 cR2 zR2 ltS cS0 zS0 cS1 zS1 cS2 zS2
  have ltR := XR_2.out.lt
  have cR0 := XR_2.out.cell 0 _ rfl
  have zR0 := XR_2.out.frozen 0
  have cR1 := XR_2.out.cell 1 _ rfl
  have zR1 := XR_2.out.frozen 1
  have cR2 := XR_2.out.cell 2 _ rfl
  have zR2 := XR_2.out.frozen 2
  have ltS := XS_2.out.lt
  have cS0 := XS_2.out.cell 0 _ rfl
  have zS0 := XS_2.out.frozen 0
  have cS1 := XS_2.out.cell 1 _ rfl
  have zS1 := XS_2.out.frozen 1
  have cS2 := XS_2.out.cell 2 _ rfl
  have zS2 := XS_2.out.frozen 2
  have ltf := Xf_2.out.lt
  have cf0 := Xf_2.out.cell 0 _ rfl
  have cf1 := Xf_2.out.cell 1 _ rfl
  have cf2 := Xf_2.out.cell 2 _ rfl
  clear hb1
  have YR_2 := hid (bx_past XR_2.out (.cells #[.bool gn, .slice ga gb gc, .slice gd ge gf] 82))
  have YS_2 := hid (bx_past XS_2.out (.cells #[.bool gn, .slice ga gb gc, .slice gd ge gf] 82))
  have Yf_2 := hid (bx_past Xf_2.out (.cells #[.bool gn, .slice ga gb gc, .slice gd ge gf] 82))
  have Yg_2 := hid (bx_new w1 #[.bool gn, .slice ga gb gc, .slice gd ge gf] 82)
  have Qf1_2 := hid (Rf1_2.out.alloc (.cells #[.bool gn, .slice ga gb gc, .slice gd ge gf] 82))
  have Qf2_2 := hid (Rf2_2.out.alloc (.cells #[.bool gn, .slice ga gb gc, .slice gd ge gf] 82))
  have HC_2 : Hid (Below w.heap.size w (w1.alloc (.cells #[.bool gn, .slice ga gb gc, .slice gd ge gf] 82))) := HB_2.out.alloc HB_2.out.size (.cells #[.bool gn, .slice ga gb gc, .slice gd ge gf] 82)
  go_wp2_with fail
  obtain ⟨V, hV⟩ : ∃ V, V = (w1.alloc (.cells #[.bool gn, .slice ga gb gc, .slice gd ge gf] 82)) := ⟨_, rfl⟩
  rw [← hV] at YR_2 YS_2 Yf_2 Yg_2 Qf1_2 Qf2_2 HC_2 ⊢
  have cR0 := YR_2.out.cell 0 _ rfl
  have cR1 := YR_2.out.cell 1 _ rfl
  have cR2 := YR_2.out.cell 2 _ rfl
  have zR0 := YR_2.out.frozen 0
  have zR1 := YR_2.out.frozen 1
  have zR2 := YR_2.out.frozen 2
  have cS0 := YS_2.out.cell 0 _ rfl
  have cS1 := YS_2.out.cell 1 _ rfl
  have cS2 := YS_2.out.cell 2 _ rfl
  have zS0 := YS_2.out.frozen 0
  have zS1 := YS_2.out.frozen 1
  have zS2 := YS_2.out.frozen 2
  have cf0 := Yf_2.out.cell 0 _ rfl
  have cf1 := Yf_2.out.cell 1 _ rfl
  have cf2 := Yf_2.out.cell 2 _ rfl
  have cg0 := Yg_2.out.cell 0 _ rfl
  have cg1 := Yg_2.out.cell 1 _ rfl
  have cg2 := Yg_2.out.cell 2 _ rfl
  clear hV
  go_region
  go_wp2
  have P1 := YR_2.out.put3 (.bool (negB x)) (.slice fa fb fc) (.slice fd fe ff)
  have P0 := YS_2.out.put3_other (.bool (negB x)) (.slice fa fb fc) (.slice fd fe ff) (by omega : w.heap.size ≠ w.heap.size + 1)
  have P2 := (P0.put3 (.bool gn) (.slice ga gb gc) (.slice gd ge gf)).drew
  have P3 := (P1.put3_other (.bool gn) (.slice ga gb gc) (.slice gd ge gf) (by omega : w.heap.size + 1 ≠ w.heap.size)).drew
  have y0 := P2.cell 0 _ rfl
  have x0 := P3.cell 0 _ rfl
  have y1 := P2.cell 1 _ rfl
  have x1 := P3.cell 1 _ rfl
  have y2 := P2.cell 2 _ rfl
  have x2 := P3.cell 2 _ rfl
  unfold wput3 at x0 x1 x2 y0 y1 y2
  have BB := (below_put3 (below_put3 HC_2.out (Nat.le_refl _) (.bool (negB x)) (.slice fa fb fc) (.slice fd fe ff)) (by omega : w.heap.size ≤ w.heap.size + 1) (.bool gn) (.slice ga gb gc) (.slice gd ge gf)).drew
  exact bodyPost_ret (v := .tuple #[.agg #[.bool (negB x), .slice fa fb fc, .slice fd fe ff], .agg #[.bool gn, .slice ga gb gc, .slice gd ge gf], .bool false]) (by simp [results, Tryd.results53, go_sem, x0, x1, x2, y0, y1, y2]) rfl ⟨_, _, _, _, _, _, _, _, _, _, _, _, _, _, rfl, BB⟩

theorem ptwo_no (a b : ByteArray) (w : World) (hma : a.size ≤ maxLen) (hmb : b.size ≤ maxLen) (hq : ∀ x y, readL a.data.toList = some x → readL b.data.toList = some y → False) :
    Calls Tryd.prog 53 #[.string a, .string b] w fun e w' => ∃ fn fa fb fc fd fe ff gn ga gb gc gd ge gf, e = .returned (.tuple #[.agg #[.bool fn, .slice fa fb fc, .slice fd fe ff], .agg #[.bool gn, .slice ga gb gc, .slice gd ge gf], .bool false]) ∧ Below w.heap.size w w' := by
  cases ha : readL a.data.toList with
  | none => exact ptwo_no1 a b w hma hmb ha
  | some x =>
    cases hb : readL b.data.toList with
    | none => exact ptwo_no2 a b w x hmb ha hb
    | some y => exact (hq x y ha hb).elim

set_option maxHeartbeats 2000000 in
set_option maxRecDepth 20000 in
theorem pCheck_yes (a : ByteArray) (w : World) (x : Rat) (hx : Hid (readL a.data.toList = some x)) :
    Calls Tryd.prog 62 #[.string a] w fun e w' => e = .returned (.int .i64 0) ∧ Below w.heap.size w w' := by
  go_enter Tryd.func62, Tryd.ntmps62
  go_wp2_with fail
  refine (pread_yes a _ x hx.out).mono ?_
  rintro e0 w0 ⟨v, rfl, ⟨ao, n, capa, bo, m, capb, rfl, hr1, hr2⟩, hb0⟩
  have HB := hid hb0
  clear hb0 hr1 hr2
  go_wp2
  go_ret
  exact ⟨rfl, HB.out.alloc HB.out.size _⟩

set_option maxHeartbeats 2000000 in
set_option maxRecDepth 20000 in
theorem pCheck_no (a : ByteArray) (w : World) (hm : a.size ≤ maxLen) (hq : Hid (readL a.data.toList = none)) :
    Calls Tryd.prog 62 #[.string a] w fun e w' => e = .returned (.int .i64 1) ∧ Below w.heap.size w w' := by
  go_enter Tryd.func62, Tryd.ntmps62
  go_wp2_with fail
  refine (pread_no a _ hm hq.out).mono ?_
  rintro e0 w0 ⟨nb, na, nn, nc, oa, on, oc, rfl, hb0⟩
  have HB := hid hb0
  clear hb0
  go_wp2
  go_ret
  exact ⟨rfl, HB.out.alloc HB.out.size _⟩

end Go.Proofs.YtddbflggcblfcaaDoor
