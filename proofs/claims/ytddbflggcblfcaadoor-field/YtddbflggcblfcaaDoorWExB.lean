/- exact.readBoth, of two texts that are fractions. (Laid by mkex.py.) -/
import Derived.Test.YtddbflggcblfcaaDoorWExA
namespace Go.Proofs.YtddbflggcblfcaaDoor
set_option linter.unusedSimpArgs false
set_option linter.unusedVariables false
open Go.RowKit Por

set_option maxHeartbeats 2000000 in
set_option maxRecDepth 20000 in
theorem both_yes (a b : ByteArray) (w : World) (x y : Rat) (hx : Hid (readL a.data.toList = some x)) (hy : Hid (readL b.data.toList = some y)) :
    Calls Tryd.prog 50 #[.string a, .string b] w fun e w' => ∃ u v, e = .returned (.tuple #[u, v, .int .i64 0]) ∧ Frac w' u x ∧ Frac w' v y ∧ Below w.heap.size w w' := by
  obtain ⟨c1, c2, c5⟩ := boxes2 w #[.bool false, .slice none 0 0, .slice none 0 0] #[.bool false, .slice none 0 0, .slice none 0 0] 76 76
  have XR_0 := hid c1
  have XS_0 := hid c2
  have HB_0 := hid c5
  clear c1 c2 c5
  go_enter Tryd.func50, Tryd.ntmps50
  go_wp2_with fail
  refine (read_yes a _ x hx.out).mono ?_
  rintro e0 w0 ⟨v0, rfl, ⟨fa, fb, fc, fd, fe, ff, rfl, hr0, hs0⟩, hb0⟩
  have XR_1 := hid (XR_0.out.keep hb0)
  have XS_1 := hid (XS_0.out.keep hb0)
  have HB_1 : Hid (Below w.heap.size w w0) := HB_0.out.trans (hb0.mono HB_0.out.size)
  have ltR := XR_1.out.lt
  have cR0 := XR_1.out.cell 0 _ rfl
  have zR0 := XR_1.out.frozen 0
  have cR1 := XR_1.out.cell 1 _ rfl
  have zR1 := XR_1.out.frozen 1
  have cR2 := XR_1.out.cell 2 _ rfl
  have zR2 := XR_1.out.frozen 2
  have ltS := XS_1.out.lt
  have cS0 := XS_1.out.cell 0 _ rfl
  have zS0 := XS_1.out.frozen 0
  have cS1 := XS_1.out.cell 1 _ rfl
  have zS1 := XS_1.out.frozen 1
  have cS2 := XS_1.out.cell 2 _ rfl
  have zS2 := XS_1.out.frozen 2
  have Rf1_1 := hid hr0
  have Rf2_1 := hid hs0
  clear hb0 hr0 hs0
  have YR_1 := hid (bx_past XR_1.out (.cells #[.bool (negB x), .slice fa fb fc, .slice fd fe ff] 76))
  have YS_1 := hid (bx_past XS_1.out (.cells #[.bool (negB x), .slice fa fb fc, .slice fd fe ff] 76))
  have Yf_1 := hid (bx_new w0 #[.bool (negB x), .slice fa fb fc, .slice fd fe ff] 76)
  have Qf1_1 := hid (Rf1_1.out.alloc (.cells #[.bool (negB x), .slice fa fb fc, .slice fd fe ff] 76))
  have Qf2_1 := hid (Rf2_1.out.alloc (.cells #[.bool (negB x), .slice fa fb fc, .slice fd fe ff] 76))
  have HC_1 : Hid (Below w.heap.size w (w0.alloc (.cells #[.bool (negB x), .slice fa fb fc, .slice fd fe ff] 76))) := HB_1.out.alloc HB_1.out.size (.cells #[.bool (negB x), .slice fa fb fc, .slice fd fe ff] 76)
  go_wp2_with fail
  refine (read_yes b _ y hy.out).mono ?_
  rintro e1 w1 ⟨v1, rfl, ⟨ga, gb, gc, gd, ge, gf, rfl, hr1, hs1⟩, hb1⟩
  have XR_2 := hid (YR_1.out.keep hb1)
  have XS_2 := hid (YS_1.out.keep hb1)
  have Xf_2 := hid (Yf_1.out.keep hb1)
  have Rf1_2 := hid (Qf1_1.out.below hb1)
  have Rf2_2 := hid (Qf2_1.out.below hb1)
  have HB_2 : Hid (Below w.heap.size w w1) := HC_1.out.trans (hb1.mono HC_1.out.size)
  clear ltR cR0 zR0 cR1 zR1 cR2 zR2 ltS cS0 zS0 cS1 zS1 cS2 zS2
  have ltR := XR_2.out.lt
  have cR0 := XR_2.out.cell 0 _ rfl
  have zR0 := XR_2.out.frozen 0
  have cR1 := XR_2.out.cell 1 _ rfl
  have zR1 := XR_2.out.frozen 1
  have cR2 := XR_2.out.cell 2 _ rfl
  have zR2 := XR_2.out.frozen 2
  have ltS := XS_2.out.lt
  have cS0 := XS_2.out.cell 0 _ rfl
  have zS0 := XS_2.out.frozen 0
  have cS1 := XS_2.out.cell 1 _ rfl
  have zS1 := XS_2.out.frozen 1
  have cS2 := XS_2.out.cell 2 _ rfl
  have zS2 := XS_2.out.frozen 2
  have ltf := Xf_2.out.lt
  have cf0 := Xf_2.out.cell 0 _ rfl
  have cf1 := Xf_2.out.cell 1 _ rfl
  have cf2 := Xf_2.out.cell 2 _ rfl
  have Rg1_2 := hid hr1
  have Rg2_2 := hid hs1
  clear hb1 hr1 hs1
  have YR_2 := hid (bx_past XR_2.out (.cells #[.bool (negB y), .slice ga gb gc, .slice gd ge gf] 76))
  have YS_2 := hid (bx_past XS_2.out (.cells #[.bool (negB y), .slice ga gb gc, .slice gd ge gf] 76))
  have Yf_2 := hid (bx_past Xf_2.out (.cells #[.bool (negB y), .slice ga gb gc, .slice gd ge gf] 76))
  have Yg_2 := hid (bx_new w1 #[.bool (negB y), .slice ga gb gc, .slice gd ge gf] 76)
  have Qf1_2 := hid (Rf1_2.out.alloc (.cells #[.bool (negB y), .slice ga gb gc, .slice gd ge gf] 76))
  have Qf2_2 := hid (Rf2_2.out.alloc (.cells #[.bool (negB y), .slice ga gb gc, .slice gd ge gf] 76))
  have Qg1_2 := hid (Rg1_2.out.alloc (.cells #[.bool (negB y), .slice ga gb gc, .slice gd ge gf] 76))
  have Qg2_2 := hid (Rg2_2.out.alloc (.cells #[.bool (negB y), .slice ga gb gc, .slice gd ge gf] 76))
  have HC_2 : Hid (Below w.heap.size w (w1.alloc (.cells #[.bool (negB y), .slice ga gb gc, .slice gd ge gf] 76))) := HB_2.out.alloc HB_2.out.size (.cells #[.bool (negB y), .slice ga gb gc, .slice gd ge gf] 76)
  go_wp2_with fail
  obtain ⟨V, hV⟩ : ∃ V, V = (w1.alloc (.cells #[.bool (negB y), .slice ga gb gc, .slice gd ge gf] 76)) := ⟨_, rfl⟩
  rw [← hV] at YR_2 YS_2 Yf_2 Yg_2 Qf1_2 Qf2_2 Qg1_2 Qg2_2 HC_2 ⊢
  have cR0 := YR_2.out.cell 0 _ rfl
  have cR1 := YR_2.out.cell 1 _ rfl
  have cR2 := YR_2.out.cell 2 _ rfl
  have zR0 := YR_2.out.frozen 0
  have zR1 := YR_2.out.frozen 1
  have zR2 := YR_2.out.frozen 2
  have cS0 := YS_2.out.cell 0 _ rfl
  have cS1 := YS_2.out.cell 1 _ rfl
  have cS2 := YS_2.out.cell 2 _ rfl
  have zS0 := YS_2.out.frozen 0
  have zS1 := YS_2.out.frozen 1
  have zS2 := YS_2.out.frozen 2
  have cf0 := Yf_2.out.cell 0 _ rfl
  have cf1 := Yf_2.out.cell 1 _ rfl
  have cf2 := Yf_2.out.cell 2 _ rfl
  have cg0 := Yg_2.out.cell 0 _ rfl
  have cg1 := Yg_2.out.cell 1 _ rfl
  have cg2 := Yg_2.out.cell 2 _ rfl
  clear hV
  go_region
  go_wp2
  have P1 := YR_2.out.put3 (.bool (negB x)) (.slice fa fb fc) (.slice fd fe ff)
  have P0 := YS_2.out.put3_other (.bool (negB x)) (.slice fa fb fc) (.slice fd fe ff) (by omega : w.heap.size ≠ w.heap.size + 1)
  have P2 := (P0.put3 (.bool (negB y)) (.slice ga gb gc) (.slice gd ge gf)).drew
  have P3 := (P1.put3_other (.bool (negB y)) (.slice ga gb gc) (.slice gd ge gf) (by omega : w.heap.size + 1 ≠ w.heap.size)).drew
  have y0 := P2.cell 0 _ rfl
  have x0 := P3.cell 0 _ rfl
  have y1 := P2.cell 1 _ rfl
  have x1 := P3.cell 1 _ rfl
  have y2 := P2.cell 2 _ rfl
  have x2 := P3.cell 2 _ rfl
  unfold wput3 at x0 x1 x2 y0 y1 y2
  have BB := (below_put3 (below_put3 HC_2.out (Nat.le_refl _) (.bool (negB x)) (.slice fa fb fc) (.slice fd fe ff)) (by omega : w.heap.size ≤ w.heap.size + 1) (.bool (negB y)) (.slice ga gb gc) (.slice gd ge gf)).drew
  refine bodyPost_ret (v := .tuple #[.agg #[.bool (negB x), .slice fa fb fc, .slice fd fe ff], .agg #[.bool (negB y), .slice ga gb gc, .slice gd ge gf], .int .i64 0]) (by simp [results, Tryd.results50, go_sem, x0, x1, x2, y0, y1, y2]) rfl ⟨_, _, rfl, ⟨fa, fb, fc, fd, fe, ff, rfl, ?_, ?_⟩, ⟨ga, gb, gc, gd, ge, gf, rfl, ?_, ?_⟩, BB⟩
  · exact ((Qf1_2.out.put3 YR_2.out (by decide) (.bool (negB x)) (.slice fa fb fc) (.slice fd fe ff)).put3 P0 (by decide) (.bool (negB y)) (.slice ga gb gc) (.slice gd ge gf)).drew
  · exact ((Qf2_2.out.put3 YR_2.out (by decide) (.bool (negB x)) (.slice fa fb fc) (.slice fd fe ff)).put3 P0 (by decide) (.bool (negB y)) (.slice ga gb gc) (.slice gd ge gf)).drew
  · exact ((Qg1_2.out.put3 YR_2.out (by decide) (.bool (negB x)) (.slice fa fb fc) (.slice fd fe ff)).put3 P0 (by decide) (.bool (negB y)) (.slice ga gb gc) (.slice gd ge gf)).drew
  · exact ((Qg2_2.out.put3 YR_2.out (by decide) (.bool (negB x)) (.slice fa fb fc) (.slice fd fe ff)).put3 P0 (by decide) (.bool (negB y)) (.slice ga gb gc) (.slice gd ge gf)).drew

theorem mk_small (n : Int) (d : Nat) (hd : d ≠ 0) : (limbs (mkRat n d).num.natAbs).length ≤ (limbs n.natAbs).length ∧ (limbs (mkRat n d).den).length ≤ (limbs d).length := by
  have e : mkRat n d = Rat.normalize n d hd := by unfold mkRat; rw [dif_neg hd]
  rw [e, Rat.normalize_eq]
  constructor
  · apply len_mono
    show (n / ((n.natAbs.gcd d : Nat) : Int)).natAbs ≤ n.natAbs
    exact Int.natAbs_ediv_le_natAbs _ _
  · apply len_mono
    exact Nat.div_le_self _ _
theorem sg_len (m : Bool) (x : Nat) : (sg m x).natAbs = x := sg_abs m x
theorem Sm.mono {q : Rat} {a b : Nat} (h : Sm q a) (hab : a ≤ b) : Sm q b := ⟨Nat.le_trans h.1 hab, Nat.le_trans h.2 hab⟩
theorem Sm.add {x y : Rat} {a b : Nat} (hx : Sm x a) (hy : Sm y b) : Sm (x + y) (a + b + 1) := by
  rw [add_sg]
  obtain ⟨h1, h2⟩ := mk_small (sg (negB x) (x.num.natAbs * y.den) + sg (negB y) (y.num.natAbs * x.den)) (x.den * y.den) (Nat.mul_ne_zero x.den_nz y.den_nz)
  have l1 := len_mul x.num.natAbs y.den
  have l2 := len_mul y.num.natAbs x.den
  have l3 := len_mul x.den y.den
  have l4 : (limbs (sg (negB x) (x.num.natAbs * y.den) + sg (negB y) (y.num.natAbs * x.den)).natAbs).length ≤ (limbs (x.num.natAbs * y.den + y.num.natAbs * x.den)).length := by
    apply len_mono
    have := Int.natAbs_add_le (sg (negB x) (x.num.natAbs * y.den)) (sg (negB y) (y.num.natAbs * x.den))
    rwa [sg_abs, sg_abs] at this
  have l5 := len_add (x.num.natAbs * y.den) (y.num.natAbs * x.den)
  obtain ⟨a1, a2⟩ := hx
  obtain ⟨b1, b2⟩ := hy
  exact ⟨by omega, by omega⟩
theorem Sm.neg {x : Rat} {a : Nat} (hx : Sm x a) : Sm (-x) a := by
  have e1 : (-x).num = -x.num := rfl
  have e2 : (-x).den = x.den := rfl
  unfold Sm
  rw [e1, e2, Int.natAbs_neg]; exact hx
theorem Sm.sub {x y : Rat} {a b : Nat} (hx : Sm x a) (hy : Sm y b) : Sm (x - y) (a + b + 1) := by rw [Rat.sub_eq_add_neg]; exact hx.add hy.neg
theorem Sm.mul {x y : Rat} {a b : Nat} (hx : Sm x a) (hy : Sm y b) : Sm (x * y) (a + b) := by
  rw [mul_sg]
  obtain ⟨h1, h2⟩ := mk_small (sg (negB x != negB y) (x.num.natAbs * y.num.natAbs)) (x.den * y.den) (Nat.mul_ne_zero x.den_nz y.den_nz)
  rw [sg_abs] at h1
  have l1 := len_mul x.num.natAbs y.num.natAbs
  have l3 := len_mul x.den y.den
  obtain ⟨a1, a2⟩ := hx
  obtain ⟨b1, b2⟩ := hy
  exact ⟨by omega, by omega⟩
theorem Sm.div {x y : Rat} {a b : Nat} (hx : Sm x a) (hy : Sm y b) (h0 : y ≠ 0) : Sm (x / y) (a + b) := by
  rw [div_sg x y h0]
  obtain ⟨h1, h2⟩ := mk_small (sg (negB x != negB y) (x.num.natAbs * y.den)) (x.den * y.num.natAbs) (Nat.mul_ne_zero x.den_nz (fun h => h0 ((num_zero y).1 h)))
  rw [sg_abs] at h1
  have l1 := len_mul x.num.natAbs y.den
  have l3 := len_mul x.den y.num.natAbs
  obtain ⟨a1, a2⟩ := hx
  obtain ⟨b1, b2⟩ := hy
  exact ⟨by omega, by omega⟩

end Go.Proofs.YtddbflggcblfcaaDoor
