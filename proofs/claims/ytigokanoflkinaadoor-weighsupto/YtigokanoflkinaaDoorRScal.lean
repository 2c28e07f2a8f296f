/- portionref scaled, fractions. (Laid by mkscal.py.) -/
import Derived.Test.YtigokanoflkinaaDoorRNum
namespace Go.Proofs.YtigokanoflkinaaDoor
set_option linter.unusedSimpArgs false
set_option linter.unusedVariables false
open Go.RowKit Por

theorem len_small {N : Nat} (h : N ≤ 10000) : (limbs N).length ≤ 2 := by
  have := len_mono (a := N) (b := 10000) h
  have e : (limbs 10000).length = 2 := by decide
  omega
set_option maxHeartbeats 2000000 in
set_option maxRecDepth 20000 in
theorem pscaled_pq (u : Value) (x : Rat) (L N : Nat) (w : World) (hx : PQv w u x L) (hL : L ≤ 1000) (hN : N ≤ 10000) :
    Calls Tryd.prog 68 #[u, .int .i64 N] w fun e w' => ∃ z, e = .returned z ∧ PQv w' z (x * ((N : Int) : Rat)) (L + 2) ∧ Below w.heap.size w w' := by
  obtain ⟨m, ao, n, capa, bo, k, capb, p, q, rfl, r1, r2, hq, rfl, b1, b2⟩ := hx
  have rl := r1.len
  have rl2 := r2.len
  have R1 := hid r1
  have R2 := hid r2
  clear r1 r2
  have HB_0 := hid (Below.refl w.heap.size w)
  have XX_1 := hid (bx_new w #[.bool m, .slice ao n capa, .slice bo k capb] 82)
  have Rp_1 := hid (R1.out.alloc (.cells #[.bool m, .slice ao n capa, .slice bo k capb] 82))
  have Rq_1 := hid (R2.out.alloc (.cells #[.bool m, .slice ao n capa, .slice bo k capb] 82))
  have HB_1 : Hid (Below w.heap.size w (w.alloc (.cells #[.bool m, .slice ao n capa, .slice bo k capb] 82))) := HB_0.out.alloc HB_0.out.size (.cells #[.bool m, .slice ao n capa, .slice bo k capb] 82)
  have leX : w.heap.size ≤ w.heap.size := HB_0.out.size
  clear R1 R2 HB_0
  have XX_2 := hid (bx_past XX_1.out (.cells #[.bool false, .slice none 0 0, .slice none 0 0] 82))
  have XR_2 := hid (bx_new (w.alloc (.cells #[.bool m, .slice ao n capa, .slice bo k capb] 82)) #[.bool false, .slice none 0 0, .slice none 0 0] 82)
  have Rp_2 := hid (Rp_1.out.alloc (.cells #[.bool false, .slice none 0 0, .slice none 0 0] 82))
  have Rq_2 := hid (Rq_1.out.alloc (.cells #[.bool false, .slice none 0 0, .slice none 0 0] 82))
  have HB_2 : Hid (Below w.heap.size w ((w.alloc (.cells #[.bool m, .slice ao n capa, .slice bo k capb] 82)).alloc (.cells #[.bool false, .slice none 0 0, .slice none 0 0] 82))) := HB_1.out.alloc HB_1.out.size (.cells #[.bool false, .slice none 0 0, .slice none 0 0] 82)
  have leR : w.heap.size ≤ (w.alloc (.cells #[.bool m, .slice ao n capa, .slice bo k capb] 82)).heap.size := HB_1.out.size
  clear XX_1 Rp_1 Rq_1 HB_1
  go_enter Tryd.func68, Tryd.ntmps68
  go_upto_region 1 with fail
  obtain ⟨V, hV⟩ : ∃ V, V = ((w.alloc (.cells #[.bool m, .slice ao n capa, .slice bo k capb] 82)).alloc (.cells #[.bool false, .slice none 0 0, .slice none 0 0] 82)) := ⟨_, rfl⟩
  rw [← hV] at XX_2 XR_2 Rp_2 Rq_2 HB_2 ⊢
  clear hV
  have hXB := XX_2
  have hRB := XR_2
  simp only [World.size_alloc] at hRB
  have x0 := hXB.out.cell 0 _ rfl
  have x1 := hXB.out.cell 1 _ rfl
  have x2 := hXB.out.cell 2 _ rfl
  have xl := hXB.out.lt
  have SK : Hid (∀ U, Below V.heap.size V U → U.cell? ⟨w.heap.size, 0, none⟩ = some (.bool m) ∧ U.cell? ⟨w.heap.size, 1, none⟩ = some (.slice ao n capa) ∧ U.cell? ⟨w.heap.size, 2, none⟩ = some (.slice bo k capb)) := fun U h => ⟨(h.cell (p := ⟨w.heap.size, 0, none⟩) xl).trans x0, (h.cell (p := ⟨w.heap.size, 1, none⟩) xl).trans x1, (h.cell (p := ⟨w.heap.size, 2, none⟩) xl).trans x2⟩
  have dx0 : V.drew.cell? ⟨w.heap.size, 0, none⟩ = some (.bool m) := ((Below.refl V.heap.size V).drew.cell (p := ⟨w.heap.size, 0, none⟩) xl).trans x0
  have dx1 : V.drew.cell? ⟨w.heap.size, 1, none⟩ = some (.slice ao n capa) := ((Below.refl V.heap.size V).drew.cell (p := ⟨w.heap.size, 1, none⟩) xl).trans x1
  have dx2 : V.drew.cell? ⟨w.heap.size, 2, none⟩ = some (.slice bo k capb) := ((Below.refl V.heap.size V).drew.cell (p := ⟨w.heap.size, 2, none⟩) xl).trans x2
  go_region_held3 (fun w' => w'.cell? ⟨w.heap.size, 0, none⟩ = some (.bool m) ∧ w'.cell? ⟨w.heap.size, 1, none⟩ = some (.slice ao n capa) ∧ w'.cell? ⟨w.heap.size, 2, none⟩ = some (.slice bo k capb)) (first | exact SK.out _ (Below.refl _ _).drew | exact SK.out _ hv4g0 | exact SK.out _ hv4g1 | (have hx9 := ((hXB.out.keep hv4g1).put3_other (b := w.heap.size + 1) (.bool m) (.slice tlo tn tc) (.slice bo k capb) (by omega)); unfold wput3 at hx9; exact ⟨hx9.cell 0 _ rfl, hx9.cell 1 _ rfl, hx9.cell 2 _ rfl⟩))
    (first | (go_at_call 58; refine (ptimes_any ao wo n capa wn wc p N _ (Rp_2.out.below hv4g0) HWR.out (by omega) (by omega)).mono ?_; rintro e4g1 w4g1 ⟨v2, rfl, ⟨tlo, tn, tc, rfl, htr, _⟩, hb4g1⟩; have hv4g1 : Below V.heap.size V w4g1 := hv4g0.trans (hb4g1.mono (hv4g0).size); clear hb4g1; have lt1 := htr.len; have lt2 := len_mul p N; have HTR := hid htr; clear htr; have s0 := (hRB.out.keep hv4g1).cell 0 _ rfl; have z0 := (hRB.out.keep hv4g1).frozen 0; have s1 := (hRB.out.keep hv4g1).cell 1 _ rfl; have z1 := (hRB.out.keep hv4g1).frozen 1; have s2 := (hRB.out.keep hv4g1).cell 2 _ rfl; have z2 := (hRB.out.keep hv4g1).frozen 2; have sl := (hRB.out.keep hv4g1).lt) | (go_at_call 67; refine (pwhole_any N _ (by omega)).mono ?_; rintro e4g0 w4g0 ⟨v1, rfl, ⟨wo, wn, wc, rfl, hwr, _⟩, hb4g0⟩; have hv4g0 : Below V.heap.size V w4g0 := (Below.refl V.heap.size V).drew.trans (hb4g0.mono ((Below.refl V.heap.size V).drew).size); clear hb4g0; have lw := hwr.len; have lw2 := len_small hN; have HWR := hid hwr; clear hwr))
  clear SK dx0 dx1 dx2
  have XX_5 := hid (hXB.out.keep hv4g1)
  have XR_5 := hid (hRB.out.keep hv4g1)
  have Rp_5 := hid (Rp_2.out.below hv4g1)
  have Rq_5 := hid (Rq_2.out.below hv4g1)
  have HB_5 : Hid (Below w.heap.size w w4g1) := HB_2.out.trans (hv4g1.mono HB_2.out.size)
  clear hXB hRB Rp_2 Rq_2 HB_2
  clear x0 x1 x2 xl s0 s1 s2 z0 z1 z2 sl
  have HRF := hid (XR_5.out.put3 (.bool m) (.slice tlo tn tc) (.slice bo k capb))
  have HTF := hid (HTR.out.put3 XR_5.out (by decide) (.bool m) (.slice tlo tn tc) (.slice bo k capb))
  have HQF := hid (Rq_5.out.put3 XR_5.out (by decide) (.bool m) (.slice tlo tn tc) (.slice bo k capb))
  have HBF := hid (below_put3 HB_5.out (by omega : w.heap.size ≤ w.heap.size + 1) (.bool m) (.slice tlo tn tc) (.slice bo k capb))
  clear HTR HWR
  unfold wput3 at HRF HTF HQF HBF
  go_wp2
  have y0 := HRF.out.cell 0 _ rfl
  have y1 := HRF.out.cell 1 _ rfl
  have y2 := HRF.out.cell 2 _ rfl
  refine bodyPost_ret (v := .agg #[.bool m, .slice tlo tn tc, .slice bo k capb]) (by simp [results, Tryd.results68, go_sem, y0, y1, y2]) rfl ⟨_, rfl, ⟨m, tlo, tn, tc, bo, k, capb, p * N, q, rfl, HTF.out, HQF.out, hq, ?_, by omega, by omega⟩, HBF.out⟩
  rw [sg_scale, rat_of, rat_of, Rat.intCast_mul]
  generalize ((sg m p : Int) : Rat) = a
  generalize ((q : Int) : Rat) = b
  generalize ((N : Int) : Rat) = c
  grind

end Go.Proofs.YtigokanoflkinaaDoor
