/- The rise of the reference: above, holds. (Laid by mkrisej.py.) -/
import Derived.Test.YtigokanoflkinaaGreatDoorRRisI
namespace Go.Proofs.YtigokanoflkinaaGreatDoor
set_option linter.unusedSimpArgs false
set_option linter.unusedVariables false
open Go.RowKit Por

theorem nat_prod {a b A B : Nat} (ha : a ≤ A) (hb : b ≤ B) : ∃ X : Nat, (a : Int) * (b : Int) = (X : Int) ∧ X ≤ A * B ∧ X = a * b := ⟨a * b, by rw [Int.natCast_mul], Nat.mul_le_mul ha hb, rfl⟩
theorem cmp3_up {x y : Nat} : 0 < cmp3 (x : Int) (y : Int) ↔ y < x := by
  unfold cmp3
  by_cases h : (x : Int) < y
  · rw [if_pos h]; omega
  · rw [if_neg h]
    by_cases e : (x : Int) = y
    · rw [if_pos e]; omega
    · rw [if_neg e]; omega

set_option maxHeartbeats 20000000 in
set_option maxRecDepth 20000 in
theorem pabove_any (d : RD) (s : RV) (j i : Nat) (w : World) (h : RisM w d s) (ho : d.Ok) (hs : s.Ok d) (he : REnd d s) (hj : j < d.us.length) (hi : i < d.us.length) :
    Calls Tryz.prog 90 #[.pointer (some ⟨d.pb, 0, none⟩), .int .i64 j, .int .i64 i] w fun e w' => (∃ b : Bool, e = .returned (.bool b) ∧ (b = true ↔ d.lv i < d.lv j)) ∧ Below w.heap.size w w' := by
  have hk4 := ho.k4
  have hk1 := ho.k1
  have hn6 := ho.n6
  have H := hid h
  have HO := hid ho
  have HS := hid hs
  have HE := hid he
  clear h ho hs he
  have hin : (i : Int) < (d.us.length : Int) := by omega
  have hjn : (j : Int) < (d.us.length : Int) := by omega
  have HB_0 := hid (Below.refl w.heap.size w)
  go_enter Tryz.func90, Tryz.ntmps90
  obtain ⟨vt2, vg2, vh2, vs2, qo2, qn2, qc2, hbx2, hot2, hog2, hoh2, hos2, hoq2, hlt2_⟩ := (H.out.below HB_0.out).box
  have bl2 := hbx2.lt
  have e4 : w.cell? ⟨d.pb, 4, none⟩ = some vh2 := hbx2.cell 4 _ rfl
  have hhl := HS.out.hl
  obtain ⟨hoo, hc, rfl⟩ := hoh2.shape
  rw [hhl] at hoh2 e4
  obtain ⟨hb_, haj, hkj, hcj, rfl, hhb, chj, _, hrj⟩ := hoh2.get (i := j) (by omega)
  obtain ⟨hb2_, hai, hki, hci, he2_, _, chi, _, hri⟩ := hoh2.get (i := i) (by omega)
  cases he2_
  rw [Nat.zero_add] at chj chi
  have lj := hrj.len
  have li := hri.len
  clear hrj hri hbx2 hot2 hog2 hoh2 hos2 hoq2 hlt2_
  by_cases hj0 : nn s.hl j = 0
  · have HN := hid (HE.out.above0 HO.out hi hj hj0)
    have hk0 : hkj = 0 := by rw [← lj, hj0, limbs_zero]; rfl
    subst hk0
    clear lj li hj0
    go_wp2
    go_ret
    exact ⟨⟨false, rfl, fun h5 => (by cases h5), fun h5 => absurd h5 HN.out⟩, HB_0.out⟩
  · have hk0 : ((hkj : Int) == 0) = false := by rw [beq_eq_false_iff_ne]; intro h5; exact hj0 (limbs_len_zero.1 (by omega))
    have hk0n : 0 < hkj := by have h7 : (limbs (nn s.hl j)).length ≠ 0 := fun h5 => hj0 (limbs_len_zero.1 h5); omega
    have hk0p : (0 : Int) < (hkj : Int) := by omega
    clear lj
    by_cases hi0 : nn s.hl i = 0
    · have HN := hid (HE.out.above1 HO.out hi hj hj0 hi0)
      have hki0 : hki = 0 := by rw [← li, hi0, limbs_zero]; rfl
      subst hki0
      clear li hi0 hj0
      go_wp2
      go_ret
      exact ⟨⟨true, rfl, fun _ => HN.out, fun _ => rfl⟩, HB_0.out⟩
    · have hki0 : ((hki : Int) == 0) = false := by rw [beq_eq_false_iff_ne]; intro h5; exact hi0 (limbs_len_zero.1 (by omega))
      clear li
      obtain ⟨_, hre, hrT⟩ := HE.out.top HO.out hi hi0
      obtain ⟨_, hte, htT⟩ := HE.out.top HO.out hj hj0
      generalize (lm s.tl i).toNat = r at hre hrT
      generalize (lm s.tl j).toNat = t at hte htT
      have hrk := hrT.lt
      have htk := htT.lt
      have HRT := hid hrT
      have HTT := hid htT
      have HRE := hid hre
      have HTE := hid hte
      clear hrT htT hre hte hi0 hj0
      obtain ⟨vt3, vg3, vh3, vs3, qo3, qn3, qc3, hbx3, hot3, hog3, hoh3, hos3, hoq3, hlt3_⟩ := (H.out.below HB_0.out).box
      have bl3 := hbx3.lt
      have e1 : w.cell? ⟨d.pb, 1, none⟩ = some (.slice d.ao d.us.length d.cap) := hbx3.cell 1 _ rfl
      have e2 : w.cell? ⟨d.pb, 2, none⟩ = some vt3 := hbx3.cell 2 _ rfl
      obtain ⟨tto, ttc, rfl, htr, _⟩ := hot3.row
      rw [HS.out.tl] at htr e2
      obtain ⟨tb, tof, rfl, htb⟩ := htr.head (by omega)
      have cti := htr.cell tb tof rfl i hi
      have ctj := htr.cell tb tof rfl j hj
      rw [← HRE.out] at cti
      rw [← HTE.out] at ctj
      clear htr hbx3 hot3 hog3 hoh3 hos3 hoq3 hlt3_
      obtain ⟨ub, uo, dai, dni, dci, hao, hbl, ai0, ai1, ai2, hdi⟩ := H.out.users.get hi
      obtain ⟨ub2, uo2, daj, dnj, dcj, hao2, _, aj0, aj1, aj2, hdj⟩ := H.out.users.get hj
      rw [hao] at hao2 e1
      cases hao2
      have hdli := hdi.len
      rw [ints_len, HO.out.good.len hi] at hdli
      subst hdli
      have hdlj := hdj.len
      rw [ints_len, HO.out.good.len hj] at hdlj
      subst hdlj
      have HDI := hid hdi
      have HDJ := hid hdj
      clear hdi hdj
      go_upto_region 7 with fail
      have HBV : Hid (Below w.heap.size w ((w.alloc (.cells #[.slice dai d.pool.length dci, .int .i64 (ug d.us i).wt, .int .i64 (ug d.us i).cap] 56)).alloc (.cells #[.slice daj d.pool.length dcj, .int .i64 (ug d.us j).wt, .int .i64 (ug d.us j).cap] 56))) := (HB_0.out.alloc (Nat.le_refl _) _).alloc (Nat.le_of_lt (by rw [World.size_alloc]; omega)) _
      have HUB : Hid (Bx ((w.alloc (.cells #[.slice dai d.pool.length dci, .int .i64 (ug d.us i).wt, .int .i64 (ug d.us i).cap] 56)).alloc (.cells #[.slice daj d.pool.length dcj, .int .i64 (ug d.us j).wt, .int .i64 (ug d.us j).cap] 56)) w.heap.size #[.slice dai d.pool.length dci, .int .i64 (ug d.us i).wt, .int .i64 (ug d.us i).cap] 56) := bx_past (bx_new w _ _) _
      have HVB : Hid (Bx ((w.alloc (.cells #[.slice dai d.pool.length dci, .int .i64 (ug d.us i).wt, .int .i64 (ug d.us i).cap] 56)).alloc (.cells #[.slice daj d.pool.length dcj, .int .i64 (ug d.us j).wt, .int .i64 (ug d.us j).cap] 56)) (w.heap.size + 1) #[.slice daj d.pool.length dcj, .int .i64 (ug d.us j).wt, .int .i64 (ug d.us j).cap] 56) := by have h9 := bx_new (w.alloc (.cells #[.slice dai d.pool.length dci, .int .i64 (ug d.us i).wt, .int .i64 (ug d.us i).cap] 56)) #[.slice daj d.pool.length dcj, .int .i64 (ug d.us j).wt, .int .i64 (ug d.us j).cap] 56; rw [World.size_alloc] at h9; exact h9
      obtain ⟨V0, hV0⟩ : ∃ V0, V0 = (w.alloc (.cells #[.slice dai d.pool.length dci, .int .i64 (ug d.us i).wt, .int .i64 (ug d.us i).cap] 56)).alloc (.cells #[.slice daj d.pool.length dcj, .int .i64 (ug d.us j).wt, .int .i64 (ug d.us j).cap] 56) := ⟨_, rfl⟩
      rw [← hV0] at HBV HUB HVB ⊢
      clear hV0 HB_0 e4 chj chi hhb e1 e2 htb cti ctj hbl ai0 ai1 ai2 aj0 aj1 aj2 bl2 bl3
      have HDI2 := hid (HDI.out.below HBV.out)
      have HDJ2 := hid (HDJ.out.below HBV.out)
      clear HDI HDJ
      obtain ⟨vt5, vg5, vh5, vs5, qo5, qn5, qc5, hbx5, hot5, hog5, hoh5, hos5, hoq5, hlt5_⟩ := (H.out.below HBV.out).box
      have bl5 := hbx5.lt
      have f05 : V0.cell? ⟨d.pb, 0, none⟩ = some (.slice d.po d.pool.length d.pc) := hbx5.cell 0 _ rfl
      have f45 : V0.cell? ⟨d.pb, 4, none⟩ = some vh5 := hbx5.cell 4 _ rfl
      obtain ⟨hoo5, hc5, rfl⟩ := hoh5.shape
      rw [hhl] at hoh5 f45
      obtain ⟨hb5_, ha5, hk5, hcc5, rfl, hhb5, ch5, _, hrw5⟩ := hoh5.get (i := j) (by omega)
      rw [Nat.zero_add] at ch5
      have HH5 := hid hrw5
      have lh5 := hrw5.len
      have lhh5 := HS.out.hs j hj
      clear hrw5 hbx5 hot5 hog5 hoh5 hos5 hoq5 hlt5_
      obtain ⟨ppb5, pof5, hpo5, hppb5⟩ := (H.out.below HBV.out).pool.head (by omega)
      have cp5 := (H.out.below HBV.out).pool.int hpo5 hrk
      rw [hpo5] at f05
      rw [d.P_eq HO.out r] at cp5
      obtain ⟨db5, dof5, hdo5, hdb5⟩ := HDJ2.out.head (by omega)
      have cd5 := HDJ2.out.int hdo5 htk
      rw [d.D_eq HO.out hj t] at cd5
      have cb05 := HVB.out.cell 0 _ rfl
      have cb15 := HUB.out.cell 1 _ rfl
      have lbx5 := HVB.out.lt
      have lby5 := HUB.out.lt
      rw [hdo5] at cb05
      rw [d.W_eq HO.out hi] at cb15
      have hdk5 : (t : Int) < (d.pool.length : Int) := by omega
      have hpk5 : (r : Int) < (d.pool.length : Int) := by omega
      obtain ⟨M15, hM15⟩ : ∃ M, M = d.a.D j t := ⟨_, rfl⟩
      obtain ⟨M25, hM25⟩ : ∃ M, M = d.a.P r := ⟨_, rfl⟩
      obtain ⟨M35, hM35⟩ : ∃ M, M = d.a.W i := ⟨_, rfl⟩
      rw [← hM15] at cd5
      rw [← hM25] at cp5
      rw [← hM35] at cb15
      obtain ⟨X15, hX15, hX1b5, hX1e5⟩ := nat_prod (a := M15) (b := M25) (A := 10000) (B := 10000) (by rw [hM15]; exact d.D_le HO.out hj _) (by rw [hM25]; exact d.P_le HO.out _)
      obtain ⟨X25, hX25, hX2b5, hX2e5⟩ := nat_prod (a := X15) (b := M35) (A := 100000000) (B := 100) (by omega) (by rw [hM35]; exact (d.W_le HO.out hi).2)
      have hX1i5 : (0 : Int) ≤ (X15 : Int) := by omega
      have hX1j5 : (X15 : Int) ≤ 100000000 := by omega
      have hX2i5 : (0 : Int) ≤ (X25 : Int) := by omega
      have hX2j5 : (X25 : Int) ≤ 10000000000 := by omega
      have hX1w5 : IntKind.i64.wrap (X15 : Int) = (X15 : Int) := Go.IntWalk.i64_in _ ⟨by omega, by omega⟩
      have hX2w5 : IntKind.i64.wrap (X25 : Int) = (X25 : Int) := Go.IntWalk.i64_in _ ⟨by omega, by omega⟩
      have HXE5 : Hid (X25 = d.a.D j t * d.a.P r * d.a.W i) := by rw [Hid, hX2e5, hX1e5, hM15, hM25, hM35]
      clear hM15 hM25 hM35 hX1e5 hX2e5
      have SK : Hid (∀ U, Below V0.heap.size V0 U → U.cell? ⟨d.pb, 4, none⟩ = some (.slice (some ⟨hb5_, 0, none⟩) d.us.length hc5) ∧ U.cell? ⟨hb5_, j, none⟩ = some (.slice ha5 hk5 hcc5) ∧ U.cell? ⟨(w.heap.size + 1), 0, none⟩ = some (.slice (some ⟨db5, dof5, none⟩) d.pool.length dcj) ∧ U.cell? ⟨db5, dof5 + t, none⟩ = some (.int .i64 (M15 : Int)) ∧ U.cell? ⟨d.pb, 0, none⟩ = some (.slice (some ⟨ppb5, pof5, none⟩) d.pool.length d.pc) ∧ U.cell? ⟨ppb5, pof5 + r, none⟩ = some (.int .i64 (M25 : Int)) ∧ U.cell? ⟨w.heap.size, 1, none⟩ = some (.int .i64 (M35 : Int))) := fun U h => ⟨(h.cell (p := ⟨d.pb, 4, none⟩) bl5).trans f45, (h.cell (p := ⟨hb5_, j, none⟩) hhb5).trans ch5, (h.cell (p := ⟨(w.heap.size + 1), 0, none⟩) lbx5).trans cb05, (h.cell (p := ⟨db5, dof5 + t, none⟩) hdb5).trans cd5, (h.cell (p := ⟨d.pb, 0, none⟩) bl5).trans f05, (h.cell (p := ⟨ppb5, pof5 + r, none⟩) hppb5).trans cp5, (h.cell (p := ⟨w.heap.size, 1, none⟩) lby5).trans cb15⟩
      have df45 : V0.drew.cell? ⟨d.pb, 4, none⟩ = some (.slice (some ⟨hb5_, 0, none⟩) d.us.length hc5) := ((Below.refl V0.heap.size V0).drew.cell (p := ⟨d.pb, 4, none⟩) bl5).trans f45
      have dch5 : V0.drew.cell? ⟨hb5_, j, none⟩ = some (.slice ha5 hk5 hcc5) := ((Below.refl V0.heap.size V0).drew.cell (p := ⟨hb5_, j, none⟩) hhb5).trans ch5
      have dcb05 : V0.drew.cell? ⟨(w.heap.size + 1), 0, none⟩ = some (.slice (some ⟨db5, dof5, none⟩) d.pool.length dcj) := ((Below.refl V0.heap.size V0).drew.cell (p := ⟨(w.heap.size + 1), 0, none⟩) lbx5).trans cb05
      have dcd5 : V0.drew.cell? ⟨db5, dof5 + t, none⟩ = some (.int .i64 (M15 : Int)) := ((Below.refl V0.heap.size V0).drew.cell (p := ⟨db5, dof5 + t, none⟩) hdb5).trans cd5
      have df05 : V0.drew.cell? ⟨d.pb, 0, none⟩ = some (.slice (some ⟨ppb5, pof5, none⟩) d.pool.length d.pc) := ((Below.refl V0.heap.size V0).drew.cell (p := ⟨d.pb, 0, none⟩) bl5).trans f05
      have dcp5 : V0.drew.cell? ⟨ppb5, pof5 + r, none⟩ = some (.int .i64 (M25 : Int)) := ((Below.refl V0.heap.size V0).drew.cell (p := ⟨ppb5, pof5 + r, none⟩) hppb5).trans cp5
      have dcb15 : V0.drew.cell? ⟨w.heap.size, 1, none⟩ = some (.int .i64 (M35 : Int)) := ((Below.refl V0.heap.size V0).drew.cell (p := ⟨w.heap.size, 1, none⟩) lby5).trans cb15
      go_region_held3 (fun w' => w'.cell? ⟨d.pb, 4, none⟩ = some (.slice (some ⟨hb5_, 0, none⟩) d.us.length hc5) ∧ w'.cell? ⟨hb5_, j, none⟩ = some (.slice ha5 hk5 hcc5) ∧ w'.cell? ⟨(w.heap.size + 1), 0, none⟩ = some (.slice (some ⟨db5, dof5, none⟩) d.pool.length dcj) ∧ w'.cell? ⟨db5, dof5 + t, none⟩ = some (.int .i64 (M15 : Int)) ∧ w'.cell? ⟨d.pb, 0, none⟩ = some (.slice (some ⟨ppb5, pof5, none⟩) d.pool.length d.pc) ∧ w'.cell? ⟨ppb5, pof5 + r, none⟩ = some (.int .i64 (M25 : Int)) ∧ w'.cell? ⟨w.heap.size, 1, none⟩ = some (.int .i64 (M35 : Int))) (first | exact SK.out _ (Below.refl _ _).drew | exact SK.out _ hv6g0 | exact SK.out _ hv6g1)
        (first | (go_at_call 37; refine (ptimes_any ha5 wo5 hk5 hcc5 wn5 wc5 (nn s.hl j) X25 _ (HH5.out.below hv6g0) HWR5.out (by omega) (by omega)).mono ?_; rintro e6g1 w6g1 ⟨vv5, rfl, ⟨ao, an, ac, rfl, har, _⟩, hb6g1⟩; have hv6g1 : Below V0.heap.size V0 w6g1 := hv6g0.trans (hb6g1.mono (hv6g0).size); clear hb6g1; have la : an ≤ 310 := (by rw [← har.len]; have h9 := len_mul (nn s.hl j) X25; have h8 := HWR5.out.len; omega); have HAR := hid har; clear har) | (go_at_call 35; refine (pwhole_any X25 _ (by omega)).mono ?_; rintro e6g0 w6g0 ⟨vw5, rfl, ⟨wo5, wn5, wc5, rfl, hwr5, _⟩, hb6g0⟩; have hv6g0 : Below V0.heap.size V0 w6g0 := (Below.refl V0.heap.size V0).drew.trans (hb6g0.mono ((Below.refl V0.heap.size V0).drew).size); clear hb6g0; have lw5 : wn5 ≤ 3 := (by rw [← hwr5.len]; have h9 := len_mono (a := X25) (b := 10000000000) (by omega); have e9 : (limbs 10000000000).length = 3 := (by decide); omega); have HWR5 := hid hwr5; clear hwr5))
      clear SK df45 dch5 dcb05 dcd5 df05 dcp5 dcb15
      have XU_7 := hid (HUB.out.keep hv6g1)
      have XV_7 := hid (HVB.out.keep hv6g1)
      have Rdi_7 := hid (HDI2.out.below hv6g1)
      have Rdj_7 := hid (HDJ2.out.below hv6g1)
      have HB_7 : Hid (Below (w.heap.size) w w6g1) := HBV.out.trans (hv6g1.mono (HBV.out.size))
      clear HUB HVB HDI2 HDJ2 HBV
      clear f05 f45 ch5 hhb5 hppb5 cp5 hdb5 cd5 cb05 cb15 lbx5 lby5 hX15 hX25 hX1w5 hX2w5 hX1i5 hX1j5 hX2i5 hX2j5 hdk5 hpk5 HWR5 HH5 bl5
      go_upto_region 8 with fail
      obtain ⟨vt6, vg6, vh6, vs6, qo6, qn6, qc6, hbx6, hot6, hog6, hoh6, hos6, hoq6, hlt6_⟩ := (H.out.below HB_7.out).box
      have bl6 := hbx6.lt
      have f06 : w6g1.cell? ⟨d.pb, 0, none⟩ = some (.slice d.po d.pool.length d.pc) := hbx6.cell 0 _ rfl
      have f46 : w6g1.cell? ⟨d.pb, 4, none⟩ = some vh6 := hbx6.cell 4 _ rfl
      obtain ⟨hoo6, hc6, rfl⟩ := hoh6.shape
      rw [hhl] at hoh6 f46
      obtain ⟨hb6_, ha6, hk6, hcc6, rfl, hhb6, ch6, _, hrw6⟩ := hoh6.get (i := i) (by omega)
      rw [Nat.zero_add] at ch6
      have HH6 := hid hrw6
      have lh6 := hrw6.len
      have lhh6 := HS.out.hs i hi
      clear hrw6 hbx6 hot6 hog6 hoh6 hos6 hoq6 hlt6_
      obtain ⟨ppb6, pof6, hpo6, hppb6⟩ := (H.out.below HB_7.out).pool.head (by omega)
      have cp6 := (H.out.below HB_7.out).pool.int hpo6 htk
      rw [hpo6] at f06
      rw [d.P_eq HO.out t] at cp6
      obtain ⟨db6, dof6, hdo6, hdb6⟩ := Rdi_7.out.head (by omega)
      have cd6 := Rdi_7.out.int hdo6 hrk
      rw [d.D_eq HO.out hi r] at cd6
      have cb06 := XU_7.out.cell 0 _ rfl
      have cb16 := XV_7.out.cell 1 _ rfl
      have lbx6 := XU_7.out.lt
      have lby6 := XV_7.out.lt
      rw [hdo6] at cb06
      rw [d.W_eq HO.out hj] at cb16
      have hdk6 : (r : Int) < (d.pool.length : Int) := by omega
      have hpk6 : (t : Int) < (d.pool.length : Int) := by omega
      obtain ⟨M16, hM16⟩ : ∃ M, M = d.a.D i r := ⟨_, rfl⟩
      obtain ⟨M26, hM26⟩ : ∃ M, M = d.a.P t := ⟨_, rfl⟩
      obtain ⟨M36, hM36⟩ : ∃ M, M = d.a.W j := ⟨_, rfl⟩
      rw [← hM16] at cd6
      rw [← hM26] at cp6
      rw [← hM36] at cb16
      obtain ⟨X16, hX16, hX1b6, hX1e6⟩ := nat_prod (a := M16) (b := M26) (A := 10000) (B := 10000) (by rw [hM16]; exact d.D_le HO.out hi _) (by rw [hM26]; exact d.P_le HO.out _)
      obtain ⟨X26, hX26, hX2b6, hX2e6⟩ := nat_prod (a := X16) (b := M36) (A := 100000000) (B := 100) (by omega) (by rw [hM36]; exact (d.W_le HO.out hj).2)
      have hX1i6 : (0 : Int) ≤ (X16 : Int) := by omega
      have hX1j6 : (X16 : Int) ≤ 100000000 := by omega
      have hX2i6 : (0 : Int) ≤ (X26 : Int) := by omega
      have hX2j6 : (X26 : Int) ≤ 10000000000 := by omega
      have hX1w6 : IntKind.i64.wrap (X16 : Int) = (X16 : Int) := Go.IntWalk.i64_in _ ⟨by omega, by omega⟩
      have hX2w6 : IntKind.i64.wrap (X26 : Int) = (X26 : Int) := Go.IntWalk.i64_in _ ⟨by omega, by omega⟩
      have HXE6 : Hid (X26 = d.a.D i r * d.a.P t * d.a.W j) := by rw [Hid, hX2e6, hX1e6, hM16, hM26, hM36]
      clear hM16 hM26 hM36 hX1e6 hX2e6
      have SK : Hid (∀ U, Below w6g1.heap.size w6g1 U → U.cell? ⟨d.pb, 4, none⟩ = some (.slice (some ⟨hb6_, 0, none⟩) d.us.length hc6) ∧ U.cell? ⟨hb6_, i, none⟩ = some (.slice ha6 hk6 hcc6) ∧ U.cell? ⟨w.heap.size, 0, none⟩ = some (.slice (some ⟨db6, dof6, none⟩) d.pool.length dci) ∧ U.cell? ⟨db6, dof6 + r, none⟩ = some (.int .i64 (M16 : Int)) ∧ U.cell? ⟨d.pb, 0, none⟩ = some (.slice (some ⟨ppb6, pof6, none⟩) d.pool.length d.pc) ∧ U.cell? ⟨ppb6, pof6 + t, none⟩ = some (.int .i64 (M26 : Int)) ∧ U.cell? ⟨(w.heap.size + 1), 1, none⟩ = some (.int .i64 (M36 : Int))) := fun U h => ⟨(h.cell (p := ⟨d.pb, 4, none⟩) bl6).trans f46, (h.cell (p := ⟨hb6_, i, none⟩) hhb6).trans ch6, (h.cell (p := ⟨w.heap.size, 0, none⟩) lbx6).trans cb06, (h.cell (p := ⟨db6, dof6 + r, none⟩) hdb6).trans cd6, (h.cell (p := ⟨d.pb, 0, none⟩) bl6).trans f06, (h.cell (p := ⟨ppb6, pof6 + t, none⟩) hppb6).trans cp6, (h.cell (p := ⟨(w.heap.size + 1), 1, none⟩) lby6).trans cb16⟩
      have df46 : w6g1.drew.cell? ⟨d.pb, 4, none⟩ = some (.slice (some ⟨hb6_, 0, none⟩) d.us.length hc6) := ((Below.refl w6g1.heap.size w6g1).drew.cell (p := ⟨d.pb, 4, none⟩) bl6).trans f46
      have dch6 : w6g1.drew.cell? ⟨hb6_, i, none⟩ = some (.slice ha6 hk6 hcc6) := ((Below.refl w6g1.heap.size w6g1).drew.cell (p := ⟨hb6_, i, none⟩) hhb6).trans ch6
      have dcb06 : w6g1.drew.cell? ⟨w.heap.size, 0, none⟩ = some (.slice (some ⟨db6, dof6, none⟩) d.pool.length dci) := ((Below.refl w6g1.heap.size w6g1).drew.cell (p := ⟨w.heap.size, 0, none⟩) lbx6).trans cb06
      have dcd6 : w6g1.drew.cell? ⟨db6, dof6 + r, none⟩ = some (.int .i64 (M16 : Int)) := ((Below.refl w6g1.heap.size w6g1).drew.cell (p := ⟨db6, dof6 + r, none⟩) hdb6).trans cd6
      have df06 : w6g1.drew.cell? ⟨d.pb, 0, none⟩ = some (.slice (some ⟨ppb6, pof6, none⟩) d.pool.length d.pc) := ((Below.refl w6g1.heap.size w6g1).drew.cell (p := ⟨d.pb, 0, none⟩) bl6).trans f06
      have dcp6 : w6g1.drew.cell? ⟨ppb6, pof6 + t, none⟩ = some (.int .i64 (M26 : Int)) := ((Below.refl w6g1.heap.size w6g1).drew.cell (p := ⟨ppb6, pof6 + t, none⟩) hppb6).trans cp6
      have dcb16 : w6g1.drew.cell? ⟨(w.heap.size + 1), 1, none⟩ = some (.int .i64 (M36 : Int)) := ((Below.refl w6g1.heap.size w6g1).drew.cell (p := ⟨(w.heap.size + 1), 1, none⟩) lby6).trans cb16
      go_region_held3 (fun w' => w'.cell? ⟨d.pb, 4, none⟩ = some (.slice (some ⟨hb6_, 0, none⟩) d.us.length hc6) ∧ w'.cell? ⟨hb6_, i, none⟩ = some (.slice ha6 hk6 hcc6) ∧ w'.cell? ⟨w.heap.size, 0, none⟩ = some (.slice (some ⟨db6, dof6, none⟩) d.pool.length dci) ∧ w'.cell? ⟨db6, dof6 + r, none⟩ = some (.int .i64 (M16 : Int)) ∧ w'.cell? ⟨d.pb, 0, none⟩ = some (.slice (some ⟨ppb6, pof6, none⟩) d.pool.length d.pc) ∧ w'.cell? ⟨ppb6, pof6 + t, none⟩ = some (.int .i64 (M26 : Int)) ∧ w'.cell? ⟨(w.heap.size + 1), 1, none⟩ = some (.int .i64 (M36 : Int))) (first | exact SK.out _ (Below.refl _ _).drew | exact SK.out _ hv8g0 | exact SK.out _ hv8g1)
        (first | (go_at_call 37; refine (ptimes_any ha6 wo6 hk6 hcc6 wn6 wc6 (nn s.hl i) X26 _ (HH6.out.below hv8g0) HWR6.out (by omega) (by omega)).mono ?_; rintro e8g1 w8g1 ⟨vv6, rfl, ⟨bo, bn, bc, rfl, hbr, _⟩, hb8g1⟩; have hv8g1 : Below w6g1.heap.size w6g1 w8g1 := hv8g0.trans (hb8g1.mono (hv8g0).size); clear hb8g1; have lb : bn ≤ 310 := (by rw [← hbr.len]; have h9 := len_mul (nn s.hl i) X26; have h8 := HWR6.out.len; omega); have HBR := hid hbr; clear hbr) | (go_at_call 35; refine (pwhole_any X26 _ (by omega)).mono ?_; rintro e8g0 w8g0 ⟨vw6, rfl, ⟨wo6, wn6, wc6, rfl, hwr6, _⟩, hb8g0⟩; have hv8g0 : Below w6g1.heap.size w6g1 w8g0 := (Below.refl w6g1.heap.size w6g1).drew.trans (hb8g0.mono ((Below.refl w6g1.heap.size w6g1).drew).size); clear hb8g0; have lw6 : wn6 ≤ 3 := (by rw [← hwr6.len]; have h9 := len_mono (a := X26) (b := 10000000000) (by omega); have e9 : (limbs 10000000000).length = 3 := (by decide); omega); have HWR6 := hid hwr6; clear hwr6))
      clear SK df46 dch6 dcb06 dcd6 df06 dcp6 dcb16
      have XU_9 := hid (XU_7.out.keep hv8g1)
      have XV_9 := hid (XV_7.out.keep hv8g1)
      have Rdi_9 := hid (Rdi_7.out.below hv8g1)
      have Rdj_9 := hid (Rdj_7.out.below hv8g1)
      have Ra_9 := hid (HAR.out.below hv8g1)
      have HB_9 : Hid (Below (w.heap.size) w w8g1) := HB_7.out.trans (hv8g1.mono (HB_7.out.size))
      clear XU_7 XV_7 Rdi_7 Rdj_7 HAR HB_7
      clear f06 f46 ch6 hhb6 hppb6 cp6 hdb6 cd6 cb06 cb16 lbx6 lby6 hX16 hX26 hX1w6 hX2w6 hX1i6 hX1j6 hX2i6 hX2j6 hdk6 hpk6 HWR6 HH6 bl6
      go_wp2_with fail
      refine (pcmp_any ao bo an ac bn bc (nn s.hl j * X25) (nn s.hl i * X26) _ Ra_9.out HBR.out (by omega) (by omega)).mono ?_
      rintro e9 w9 ⟨rfl, hb9⟩
      have XU_10 := hid (XU_9.out.keep hb9)
      have XV_10 := hid (XV_9.out.keep hb9)
      have Rdi_10 := hid (Rdi_9.out.below hb9)
      have Rdj_10 := hid (Rdj_9.out.below hb9)
      have Ra_10 := hid (Ra_9.out.below hb9)
      have Rb_10 := hid (HBR.out.below hb9)
      have HB_10 : Hid (Below (w.heap.size) w w9) := HB_9.out.trans (hb9.mono (HB_9.out.size))
      clear XU_9 XV_9 Rdi_9 Rdj_9 Ra_9 HBR HB_9
      clear hb9
      have HIFF : Hid (d.lv i < d.lv j ↔ nn s.hl i * X26 < nn s.hl j * X25) := by rw [HXE5.out, HXE6.out]; exact HE.out.above2 HO.out hi hj HRT.out HTT.out
      by_cases hc : nn s.hl i * X26 < nn s.hl j * X25
      · have HN := hid (HIFF.out.2 hc)
        have hcc : 0 < cmp3 ((nn s.hl j * X25 : Nat) : Int) ((nn s.hl i * X26 : Nat) : Int) := cmp3_up.2 hc
        generalize cmp3 ((nn s.hl j * X25 : Nat) : Int) ((nn s.hl i * X26 : Nat) : Int) = cc at hcc ⊢
        clear hc
        go_wp2
        go_ret
        exact ⟨⟨true, rfl, fun _ => HN.out, fun _ => rfl⟩, HB_10.out⟩
      · have HN := hid (fun h5 => hc (HIFF.out.1 h5))
        have hcc : ¬ 0 < cmp3 ((nn s.hl j * X25 : Nat) : Int) ((nn s.hl i * X26 : Nat) : Int) := fun h5 => hc (cmp3_up.1 h5)
        have hcd : decide (0 < cmp3 ((nn s.hl j * X25 : Nat) : Int) ((nn s.hl i * X26 : Nat) : Int)) = false := decide_eq_false hcc
        generalize cmp3 ((nn s.hl j * X25 : Nat) : Int) ((nn s.hl i * X26 : Nat) : Int) = cc at hcc hcd ⊢
        clear hc
        go_wp2
        go_ret
        exact ⟨⟨false, rfl, fun h5 => (by cases h5), fun h5 => absurd h5 HN.out⟩, HB_10.out⟩

set_option maxHeartbeats 20000000 in
set_option maxRecDepth 20000 in
theorem pholds_any (d : RD) (s : RV) (r i : Nat) (w : World) (h : RisM w d s) (ho : d.Ok) (hs : s.Ok d) (he : REnd d s) (hle : ∀ i, i < d.us.length → bn s.sl i = false → d.a.D i r * nn s.hl i ≤ leftT d.a s.R r i) (hr : r < d.pool.length) (hi : i < d.us.length) :
    Calls Tryz.prog 42 #[.pointer (some ⟨d.pb, 0, none⟩), .int .i64 r, .int .i64 i] w fun e w' => (∃ b : Bool, e = .returned (.bool b) ∧ (b = true ↔ HoldsN d r i)) ∧ Below w.heap.size w w' := by
  have hk4 := ho.k4
  have hk1 := ho.k1
  have hn6 := ho.n6
  have H := hid h
  have HO := hid ho
  have HS := hid hs
  have HE := hid he
  have HLE := hid hle
  clear h ho hs he hle
  have hin : (i : Int) < (d.us.length : Int) := by omega
  have hrn : (r : Int) < (d.pool.length : Int) := by omega
  have HB_0 := hid (Below.refl w.heap.size w)
  go_enter Tryz.func42, Tryz.ntmps42
  go_wp2_with fail
  refine (pleft_any d s r _ H.out HO.out HS.out hr HLE.out).mono ?_
  rintro e1 w1 ⟨xo, xn, xc, rfl, hxr, lx, hb1⟩
  have HB_6 : Hid (Below (w.heap.size) w w1) := HB_0.out.trans (hb1.mono (HB_0.out.size))
  clear HB_0
  have lxl := hxr.len
  clear hb1 hxr
  obtain ⟨vt2, vg2, vh2, vs2, qo2, qn2, qc2, hbx2, hot2, hog2, hoh2, hos2, hoq2, hlt2_⟩ := (H.out.below HB_6.out).box
  have bl2 := hbx2.lt
  have g12 : w1.cell? ⟨d.pb, 1, none⟩ = some (.slice d.ao d.us.length d.cap) := hbx2.cell 1 _ rfl
  clear hbx2 hot2 hog2 hoh2 hos2 hoq2 hlt2_
  obtain ⟨ub2, uo2, da2, dn2, dc2, hao2, hbl2, a02, a12, a22, hd2⟩ := (H.out.users.below HB_6.out).get hi
  rw [hao2] at g12
  have hdl2 := hd2.len
  rw [ints_len, HO.out.good.len hi] at hdl2
  subst hdl2
  obtain ⟨db2, dof2, hdo2, hdb2⟩ := hd2.head (by omega)
  have cd2 := hd2.int hdo2 hr
  subst hdo2
  clear a12 a22 hd2
  by_cases hd0 : lm (ug d.us i).dem r = 0
  · have HN : Hid (¬ HoldsN d r i) := fun h5 => by have := h5.1; omega
    rw [hd0] at cd2
    clear hd0
    go_wp2
    go_ret
    exact ⟨⟨false, rfl, fun h5 => (by cases h5), fun h5 => absurd h5 HN.out⟩, HB_6.out⟩
  · have hdp : 0 < lm (ug d.us i).dem r := by have := (amt_rng (HO.out.good.dem hi r)).1; omega
    have hd1 : (lm (ug d.us i).dem r == 0) = false := by rw [beq_eq_false_iff_ne]; exact hd0
    have HDP := hid hdp
    clear hdp hd0
    by_cases hl0 : lft d.a s.R r = 0
    · have HUP := hid ((HE.out.lf r hr).1 hl0)
      have hx0 : xn = 0 := by rw [← lxl, hl0, limbs_zero]; rfl
      subst hx0
      clear lxl hl0
      go_wp2
      go_loopg [8] d.us.length (fun gg ix wr => ∃ k : Nat, gg = d.us.length - k ∧ k ≤ d.us.length ∧ ix = .int .i64 k ∧ Hid (∀ j, j < k → 0 < lm (ug d.us j).dem r → ¬ d.lv i < d.lv j) ∧ Hid (Below w.heap.size w wr))
      case atStart => exact ⟨0, rfl, Nat.zero_le _, rfl, fun j hj => by omega, HB_6.out⟩
      case round =>
        clear HB_6 g12 a02 cd2 hdb2 hbl2 bl2
        obtain ⟨k, hgk, hk, rfl, hz, hB⟩ := hrel
        by_cases hkt : k < d.us.length
        · have hkn : (k : Int) < (d.us.length : Int) := by omega
          obtain ⟨vt3, vg3, vh3, vs3, qo3, qn3, qc3, hbx3, hot3, hog3, hoh3, hos3, hoq3, hlt3_⟩ := (H.out.below hB.out).box
          have bl3 := hbx3.lt
          have g13 : wr.cell? ⟨d.pb, 1, none⟩ = some (.slice d.ao d.us.length d.cap) := hbx3.cell 1 _ rfl
          clear hbx3 hot3 hog3 hoh3 hos3 hoq3 hlt3_
          obtain ⟨ub3, uo3, da3, dn3, dc3, hao3, hbl3, a03, a13, a23, hd3⟩ := (H.out.users.below hB.out).get hkt
          rw [hao3] at g13
          have hdl3 := hd3.len
          rw [ints_len, HO.out.good.len hkt] at hdl3
          subst hdl3
          obtain ⟨db3, dof3, hdo3, hdb3⟩ := hd3.head (by omega)
          have cd3 := hd3.int hdo3 hr
          subst hdo3
          clear a13 a23 hd3
          have HST : Hid (¬ (0 < lm (ug d.us k).dem r ∧ d.lv i < d.lv k) → ∀ j, j < k + 1 → 0 < lm (ug d.us j).dem r → ¬ d.lv i < d.lv j) := fun h5 j h6 h7 h8 => by
            by_cases e : j = k
            · subst e; exact h5 ⟨h7, h8⟩
            · exact hz.out j (by omega) h7 h8
          by_cases hdk : 0 < lm (ug d.us k).dem r
          · go_wp2_with fail
            refine (pabove_any d s k i _ (H.out.below hB.out) HO.out HS.out HE.out hkt hi).mono ?_
            rintro e4 w4 ⟨⟨b, rfl, hbi⟩, hb4⟩
            have HBI := hid hbi
            have HDK := hid hdk
            clear hbi hdk
            have HB_41 : Hid (Below (w.heap.size) w w4) := hB.out.trans (hb4.mono (hB.out.size))
            clear hB
            clear hb4 g13 a03 cd3 hdb3 hbl3 bl3
            cases b with
            | true =>
              have HN : Hid (¬ HoldsN d r i) := fun h5 => h5.2.2 k hkt HDK.out (HBI.out.1 rfl)
              go_wp2
              go_ret
              exact ⟨⟨false, rfl, fun h5 => (by cases h5), fun h5 => absurd h5 HN.out⟩, HB_41.out⟩
            | false =>
              have HZ2 := hid (HST.out (fun h5 => by have := HBI.out.2 h5.2; cases this))
              go_wp2
              go_roundg (d.us.length - (k + 1))
              case measure => omega
              case rel => exact ⟨k + 1, rfl, by omega, by go_num, HZ2.out, HB_41.out⟩
          · have HZ2 := hid (HST.out (fun h5 => hdk h5.1))
            go_wp2
            go_roundg (d.us.length - (k + 1))
            case measure => omega
            case rel => exact ⟨k + 1, rfl, by omega, by go_num, HZ2.out, hB.out⟩
        · obtain rfl : k = d.us.length := by omega
          have HN : Hid (HoldsN d r i) := ⟨HDP.out, HUP.out, hz.out⟩
          obtain ⟨vt3, vg3, vh3, vs3, qo3, qn3, qc3, hbx3, hot3, hog3, hoh3, hos3, hoq3, hlt3_⟩ := (H.out.below hB.out).box
          have bl3 := hbx3.lt
          have g13 : wr.cell? ⟨d.pb, 1, none⟩ = some (.slice d.ao d.us.length d.cap) := hbx3.cell 1 _ rfl
          clear hbx3 hot3 hog3 hoh3 hos3 hoq3 hlt3_
          go_wp2
          go_ret
          exact ⟨⟨true, rfl, fun _ => HN.out, fun _ => rfl⟩, hB.out⟩
    · have HN : Hid (¬ HoldsN d r i) := fun h5 => hl0 ((HE.out.lf r hr).2 h5.2.1)
      have hx0 : 0 < xn := by have h7 : (limbs (lft d.a s.R r)).length ≠ 0 := fun h5 => hl0 (limbs_len_zero.1 h5); omega
      clear lxl hl0
      go_wp2
      go_ret
      exact ⟨⟨false, rfl, fun h5 => (by cases h5), fun h5 => absurd h5 HN.out⟩, HB_6.out⟩

end Go.Proofs.YtigokanoflkinaaGreatDoor
