/- RRisJ, RRisK, joined. -/
import Derived.Test.YtigokanoflkinaaGreatDoorRRsM
import Derived.Test.YtigokanoflkinaaGreatDoorRRisH
import Derived.Test.YtigokanoflkinaaGreatDoorRefTxt
import Derived.Deep.DeepCutAuto
/- The rise of the reference: above, holds. (Laid by mkrisej.py.) -/
namespace Go.Proofs.YtigokanoflkinaaGreatDoor
set_option linter.unusedSimpArgs false
set_option linter.unusedVariables false
open Go.RowKit Por

theorem nat_prod {a b A B : Nat} (ha : a ≤ A) (hb : b ≤ B) : ∃ X : Nat, (a : Int) * (b : Int) = (X : Int) ∧ X ≤ A * B ∧ X = a * b := ⟨a * b, by rw [Int.natCast_mul], Nat.mul_le_mul ha hb, rfl⟩
theorem cmp3_up {x y : Nat} : 0 < cmp3 (x : Int) (y : Int) ↔ y < x := by
  unfold cmp3
  by_cases h : (x : Int) < y
  · rw [if_pos h]; omega
  · rw [if_neg h]
    by_cases e : (x : Int) = y
    · rw [if_pos e]; omega
    · rw [if_neg e]; omega

set_option maxHeartbeats 20000000 in
set_option maxRecDepth 20000 in
theorem pabove_any (d : RD) (s : RV) (j i : Nat) (w : World) (h : RisM w d s) (ho : d.Ok) (hs : s.Ok d) (he : REnd d s) (hj : j < d.us.length) (hi : i < d.us.length) :
    Calls Tryz.prog 90 #[.pointer (some ⟨d.pb, 0, none⟩), .int .i64 j, .int .i64 i] w fun e w' => (∃ b : Bool, e = .returned (.bool b) ∧ (b = true ↔ d.lv i < d.lv j)) ∧ Below w.heap.size w w' := by
  have hk4 := ho.k4
  have hk1 := ho.k1
  have hn6 := ho.n6
  have H := hid h
  have HO := hid ho
  have HS := hid hs
  have HE := hid he
  clear h ho hs he
  have hin : (i : Int) < (d.us.length : Int) := by omega
  have hjn : (j : Int) < (d.us.length : Int) := by omega
  have HB_0 := hid (Below.refl w.heap.size w)
  go_enter Tryz.func90, Tryz.ntmps90
  obtain ⟨vt2, vg2, vh2, vs2, qo2, qn2, qc2, hbx2, hot2, hog2, hoh2, hos2, hoq2, hlt2_⟩ := (H.out.below HB_0.out).box
  have bl2 := hbx2.lt
  have e4 : w.cell? ⟨d.pb, 4, none⟩ = some vh2 := hbx2.cell 4 _ rfl
  have hhl := HS.out.hl
  obtain ⟨hoo, hc, rfl⟩ := hoh2.shape
  rw [hhl] at hoh2 e4
  obtain ⟨hb_, haj, hkj, hcj, rfl, hhb, chj, _, hrj⟩ := hoh2.get (i := j) (by omega)
  obtain ⟨hb2_, hai, hki, hci, he2_, _, chi, _, hri⟩ := hoh2.get (i := i) (by omega)
  cases he2_
  rw [Nat.zero_add] at chj chi
  have lj := hrj.len
  have li := hri.len
  clear hrj hri hbx2 hot2 hog2 hoh2 hos2 hoq2 hlt2_
  by_cases hj0 : nn s.hl j = 0
  · have HN := hid (HE.out.above0 HO.out hi hj hj0)
    have hk0 : hkj = 0 := by rw [← lj, hj0, limbs_zero]; rfl
    subst hk0
    clear lj li hj0
    go_wp2
    go_ret
    exact ⟨⟨false, rfl, fun h5 => (by cases h5), fun h5 => absurd h5 HN.out⟩, HB_0.out⟩
  · have hk0 : ((hkj : Int) == 0) = false := by rw [beq_eq_false_iff_ne]; intro h5; exact hj0 (limbs_len_zero.1 (by omega))
    have hk0n : 0 < hkj := by have h7 : (limbs (nn s.hl j)).length ≠ 0 := fun h5 => hj0 (limbs_len_zero.1 h5); omega
    have hk0p : (0 : Int) < (hkj : Int) := by omega
    clear lj
    by_cases hi0 : nn s.hl i = 0
    · have HN := hid (HE.out.above1 HO.out hi hj hj0 hi0)
      have hki0 : hki = 0 := by rw [← li, hi0, limbs_zero]; rfl
      subst hki0
      clear li hi0 hj0
      go_wp2
      go_ret
      exact ⟨⟨true, rfl, fun _ => HN.out, fun _ => rfl⟩, HB_0.out⟩
    · have hki0 : ((hki : Int) == 0) = false := by rw [beq_eq_false_iff_ne]; intro h5; exact hi0 (limbs_len_zero.1 (by omega))
      clear li
      obtain ⟨_, hre, hrT⟩ := HE.out.top HO.out hi hi0
      obtain ⟨_, hte, htT⟩ := HE.out.top HO.out hj hj0
      generalize (lm s.tl i).toNat = r at hre hrT
      generalize (lm s.tl j).toNat = t at hte htT
      have hrk := hrT.lt
      have htk := htT.lt
      have HRT := hid hrT
      have HTT := hid htT
      have HRE := hid hre
      have HTE := hid hte
      clear hrT htT hre hte hi0 hj0
      obtain ⟨vt3, vg3, vh3, vs3, qo3, qn3, qc3, hbx3, hot3, hog3, hoh3, hos3, hoq3, hlt3_⟩ := (H.out.below HB_0.out).box
      have bl3 := hbx3.lt
      have e1 : w.cell? ⟨d.pb, 1, none⟩ = some (.slice d.ao d.us.length d.cap) := hbx3.cell 1 _ rfl
      have e2 : w.cell? ⟨d.pb, 2, none⟩ = some vt3 := hbx3.cell 2 _ rfl
      obtain ⟨tto, ttc, rfl, htr, _⟩ := hot3.row
      rw [HS.out.tl] at htr e2
      obtain ⟨tb, tof, rfl, htb⟩ := htr.head (by omega)
      have cti := htr.cell tb tof rfl i hi
      have ctj := htr.cell tb tof rfl j hj
      rw [← HRE.out] at cti
      rw [← HTE.out] at ctj
      clear htr hbx3 hot3 hog3 hoh3 hos3 hoq3 hlt3_
      obtain ⟨ub, uo, dai, dni, dci, hao, hbl, ai0, ai1, ai2, hdi⟩ := H.out.users.get hi
      obtain ⟨ub2, uo2, daj, dnj, dcj, hao2, _, aj0, aj1, aj2, hdj⟩ := H.out.users.get hj
      rw [hao] at hao2 e1
      cases hao2
      have hdli := hdi.len
      rw [ints_len, HO.out.good.len hi] at hdli
      subst hdli
      have hdlj := hdj.len
      rw [ints_len, HO.out.good.len hj] at hdlj
      subst hdlj
      have HDI := hid hdi
      have HDJ := hid hdj
      clear hdi hdj
      go_upto_region 7 with fail
      have HBV : Hid (Below w.heap.size w ((w.alloc (.cells #[.slice dai d.pool.length dci, .int .i64 (ug d.us i).wt, .int .i64 (ug d.us i).cap] 56)).alloc (.cells #[.slice daj d.pool.length dcj, .int .i64 (ug d.us j).wt, .int .i64 (ug d.us j).cap] 56))) := (HB_0.out.alloc (Nat.le_refl _) _).alloc (Nat.le_of_lt (by rw [World.size_alloc]; omega)) _
      have HUB : Hid (Bx ((w.alloc (.cells #[.slice dai d.pool.length dci, .int .i64 (ug d.us i).wt, .int .i64 (ug d.us i).cap] 56)).alloc (.cells #[.slice daj d.pool.length dcj, .int .i64 (ug d.us j).wt, .int .i64 (ug d.us j).cap] 56)) w.heap.size #[.slice dai d.pool.length dci, .int .i64 (ug d.us i).wt, .int .i64 (ug d.us i).cap] 56) := bx_past (bx_new w _ _) _
      have HVB : Hid (Bx ((w.alloc (.cells #[.slice dai d.pool.length dci, .int .i64 (ug d.us i).wt, .int .i64 (ug d.us i).cap] 56)).alloc (.cells #[.slice daj d.pool.length dcj, .int .i64 (ug d.us j).wt, .int .i64 (ug d.us j).cap] 56)) (w.heap.size + 1) #[.slice daj d.pool.length dcj, .int .i64 (ug d.us j).wt, .int .i64 (ug d.us j).cap] 56) := by have h9 := bx_new (w.alloc (.cells #[.slice dai d.pool.length dci, .int .i64 (ug d.us i).wt, .int .i64 (ug d.us i).cap] 56)) #[.slice daj d.pool.length dcj, .int .i64 (ug d.us j).wt, .int .i64 (ug d.us j).cap] 56; rw [World.size_alloc] at h9; exact h9
      obtain ⟨V0, hV0⟩ : ∃ V0, V0 = (w.alloc (.cells #[.slice dai d.pool.length dci, .int .i64 (ug d.us i).wt, .int .i64 (ug d.us i).cap] 56)).alloc (.cells #[.slice daj d.pool.length dcj, .int .i64 (ug d.us j).wt, .int .i64 (ug d.us j).cap] 56) := ⟨_, rfl⟩
      rw [← hV0] at HBV HUB HVB ⊢
      clear hV0 HB_0 e4 chj chi hhb e1 e2 htb cti ctj hbl ai0 ai1 ai2 aj0 aj1 aj2 bl2 bl3
      have HDI2 := hid (HDI.out.below HBV.out)
      have HDJ2 := hid (HDJ.out.below HBV.out)
      clear HDI HDJ
      obtain ⟨vt5, vg5, vh5, vs5, qo5, qn5, qc5, hbx5, hot5, hog5, hoh5, hos5, hoq5, hlt5_⟩ := (H.out.below HBV.out).box
      have bl5 := hbx5.lt
      have f05 : V0.cell? ⟨d.pb, 0, none⟩ = some (.slice d.po d.pool.length d.pc) := hbx5.cell 0 _ rfl
      have f45 : V0.cell? ⟨d.pb, 4, none⟩ = some vh5 := hbx5.cell 4 _ rfl
      obtain ⟨hoo5, hc5, rfl⟩ := hoh5.shape
      rw [hhl] at hoh5 f45
      obtain ⟨hb5_, ha5, hk5, hcc5, rfl, hhb5, ch5, _, hrw5⟩ := hoh5.get (i := j) (by omega)
      rw [Nat.zero_add] at ch5
      have HH5 := hid hrw5
      have lh5 := hrw5.len
      have lhh5 := HS.out.hs j hj
      clear hrw5 hbx5 hot5 hog5 hoh5 hos5 hoq5 hlt5_
      obtain ⟨ppb5, pof5, hpo5, hppb5⟩ := (H.out.below HBV.out).pool.head (by omega)
      have cp5 := (H.out.below HBV.out).pool.int hpo5 hrk
      rw [hpo5] at f05
      rw [d.P_eq HO.out r] at cp5
      obtain ⟨db5, dof5, hdo5, hdb5⟩ := HDJ2.out.head (by omega)
      have cd5 := HDJ2.out.int hdo5 htk
      rw [d.D_eq HO.out hj t] at cd5
      have cb05 := HVB.out.cell 0 _ rfl
      have cb15 := HUB.out.cell 1 _ rfl
      have lbx5 := HVB.out.lt
      have lby5 := HUB.out.lt
      rw [hdo5] at cb05
      rw [d.W_eq HO.out hi] at cb15
      have hdk5 : (t : Int) < (d.pool.length : Int) := by omega
      have hpk5 : (r : Int) < (d.pool.length : Int) := by omega
      obtain ⟨M15, hM15⟩ : ∃ M, M = d.a.D j t := ⟨_, rfl⟩
      obtain ⟨M25, hM25⟩ : ∃ M, M = d.a.P r := ⟨_, rfl⟩
      obtain ⟨M35, hM35⟩ : ∃ M, M = d.a.W i := ⟨_, rfl⟩
      rw [← hM15] at cd5
      rw [← hM25] at cp5
      rw [← hM35] at cb15
      obtain ⟨X15, hX15, hX1b5, hX1e5⟩ := nat_prod (a := M15) (b := M25) (A := 10000) (B := 10000) (by rw [hM15]; exact d.D_le HO.out hj _) (by rw [hM25]; exact d.P_le HO.out _)
      obtain ⟨X25, hX25, hX2b5, hX2e5⟩ := nat_prod (a := X15) (b := M35) (A := 100000000) (B := 100) (by omega) (by rw [hM35]; exact (d.W_le HO.out hi).2)
      have hX1i5 : (0 : Int) ≤ (X15 : Int) := by omega
      have hX1j5 : (X15 : Int) ≤ 100000000 := by omega
      have hX2i5 : (0 : Int) ≤ (X25 : Int) := by omega
      have hX2j5 : (X25 : Int) ≤ 10000000000 := by omega
      have hX1w5 : IntKind.i64.wrap (X15 : Int) = (X15 : Int) := Go.IntWalk.i64_in _ ⟨by omega, by omega⟩
      have hX2w5 : IntKind.i64.wrap (X25 : Int) = (X25 : Int) := Go.IntWalk.i64_in _ ⟨by omega, by omega⟩
      have HXE5 : Hid (X25 = d.a.D j t * d.a.P r * d.a.W i) := by rw [Hid, hX2e5, hX1e5, hM15, hM25, hM35]
      clear hM15 hM25 hM35 hX1e5 hX2e5
      have SK : Hid (∀ U, Below V0.heap.size V0 U → U.cell? ⟨d.pb, 4, none⟩ = some (.slice (some ⟨hb5_, 0, none⟩) d.us.length hc5) ∧ U.cell? ⟨hb5_, j, none⟩ = some (.slice ha5 hk5 hcc5) ∧ U.cell? ⟨(w.heap.size + 1), 0, none⟩ = some (.slice (some ⟨db5, dof5, none⟩) d.pool.length dcj) ∧ U.cell? ⟨db5, dof5 + t, none⟩ = some (.int .i64 (M15 : Int)) ∧ U.cell? ⟨d.pb, 0, none⟩ = some (.slice (some ⟨ppb5, pof5, none⟩) d.pool.length d.pc) ∧ U.cell? ⟨ppb5, pof5 + r, none⟩ = some (.int .i64 (M25 : Int)) ∧ U.cell? ⟨w.heap.size, 1, none⟩ = some (.int .i64 (M35 : Int))) := fun U h => ⟨(h.cell (p := ⟨d.pb, 4, none⟩) bl5).trans f45, (h.cell (p := ⟨hb5_, j, none⟩) hhb5).trans ch5, (h.cell (p := ⟨(w.heap.size + 1), 0, none⟩) lbx5).trans cb05, (h.cell (p := ⟨db5, dof5 + t, none⟩) hdb5).trans cd5, (h.cell (p := ⟨d.pb, 0, none⟩) bl5).trans f05, (h.cell (p := ⟨ppb5, pof5 + r, none⟩) hppb5).trans cp5, (h.cell (p := ⟨w.heap.size, 1, none⟩) lby5).trans cb15⟩
      have df45 : V0.drew.cell? ⟨d.pb, 4, none⟩ = some (.slice (some ⟨hb5_, 0, none⟩) d.us.length hc5) := ((Below.refl V0.heap.size V0).drew.cell (p := ⟨d.pb, 4, none⟩) bl5).trans f45
      have dch5 : V0.drew.cell? ⟨hb5_, j, none⟩ = some (.slice ha5 hk5 hcc5) := ((Below.refl V0.heap.size V0).drew.cell (p := ⟨hb5_, j, none⟩) hhb5).trans ch5
      have dcb05 : V0.drew.cell? ⟨(w.heap.size + 1), 0, none⟩ = some (.slice (some ⟨db5, dof5, none⟩) d.pool.length dcj) := ((Below.refl V0.heap.size V0).drew.cell (p := ⟨(w.heap.size + 1), 0, none⟩) lbx5).trans cb05
      have dcd5 : V0.drew.cell? ⟨db5, dof5 + t, none⟩ = some (.int .i64 (M15 : Int)) := ((Below.refl V0.heap.size V0).drew.cell (p := ⟨db5, dof5 + t, none⟩) hdb5).trans cd5
      have df05 : V0.drew.cell? ⟨d.pb, 0, none⟩ = some (.slice (some ⟨ppb5, pof5, none⟩) d.pool.length d.pc) := ((Below.refl V0.heap.size V0).drew.cell (p := ⟨d.pb, 0, none⟩) bl5).trans f05
      have dcp5 : V0.drew.cell? ⟨ppb5, pof5 + r, none⟩ = some (.int .i64 (M25 : Int)) := ((Below.refl V0.heap.size V0).drew.cell (p := ⟨ppb5, pof5 + r, none⟩) hppb5).trans cp5
      have dcb15 : V0.drew.cell? ⟨w.heap.size, 1, none⟩ = some (.int .i64 (M35 : Int)) := ((Below.refl V0.heap.size V0).drew.cell (p := ⟨w.heap.size, 1, none⟩) lby5).trans cb15
      go_region_held3 (fun w' => w'.cell? ⟨d.pb, 4, none⟩ = some (.slice (some ⟨hb5_, 0, none⟩) d.us.length hc5) ∧ w'.cell? ⟨hb5_, j, none⟩ = some (.slice ha5 hk5 hcc5) ∧ w'.cell? ⟨(w.heap.size + 1), 0, none⟩ = some (.slice (some ⟨db5, dof5, none⟩) d.pool.length dcj) ∧ w'.cell? ⟨db5, dof5 + t, none⟩ = some (.int .i64 (M15 : Int)) ∧ w'.cell? ⟨d.pb, 0, none⟩ = some (.slice (some ⟨ppb5, pof5, none⟩) d.pool.length d.pc) ∧ w'.cell? ⟨ppb5, pof5 + r, none⟩ = some (.int .i64 (M25 : Int)) ∧ w'.cell? ⟨w.heap.size, 1, none⟩ = some (.int .i64 (M35 : Int))) (first | exact SK.out _ (Below.refl _ _).drew | exact SK.out _ hv6g0 | exact SK.out _ hv6g1)
        (first | (go_at_call 37; refine (ptimes_any ha5 wo5 hk5 hcc5 wn5 wc5 (nn s.hl j) X25 _ (HH5.out.below hv6g0) HWR5.out (by omega) (by omega)).mono ?_; rintro e6g1 w6g1 ⟨vv5, rfl, ⟨ao, an, ac, rfl, har, _⟩, hb6g1⟩; have hv6g1 : Below V0.heap.size V0 w6g1 := hv6g0.trans (hb6g1.mono (hv6g0).size); clear hb6g1; have la : an ≤ 310 := (by rw [← har.len]; have h9 := len_mul (nn s.hl j) X25; have h8 := HWR5.out.len; omega); have HAR := hid har; clear har) | (go_at_call 35; refine (pwhole_any X25 _ (by omega)).mono ?_; rintro e6g0 w6g0 ⟨vw5, rfl, ⟨wo5, wn5, wc5, rfl, hwr5, _⟩, hb6g0⟩; have hv6g0 : Below V0.heap.size V0 w6g0 := (Below.refl V0.heap.size V0).drew.trans (hb6g0.mono ((Below.refl V0.heap.size V0).drew).size); clear hb6g0; have lw5 : wn5 ≤ 3 := (by rw [← hwr5.len]; have h9 := len_mono (a := X25) (b := 10000000000) (by omega); have e9 : (limbs 10000000000).length = 3 := (by decide); omega); have HWR5 := hid hwr5; clear hwr5))
      clear SK df45 dch5 dcb05 dcd5 df05 dcp5 dcb15
      have XU_7 := hid (HUB.out.keep hv6g1)
      have XV_7 := hid (HVB.out.keep hv6g1)
      have Rdi_7 := hid (HDI2.out.below hv6g1)
      have Rdj_7 := hid (HDJ2.out.below hv6g1)
      have HB_7 : Hid (Below (w.heap.size) w w6g1) := HBV.out.trans (hv6g1.mono (HBV.out.size))
      clear HUB HVB HDI2 HDJ2 HBV
      clear f05 f45 ch5 hhb5 hppb5 cp5 hdb5 cd5 cb05 cb15 lbx5 lby5 hX15 hX25 hX1w5 hX2w5 hX1i5 hX1j5 hX2i5 hX2j5 hdk5 hpk5 HWR5 HH5 bl5
      go_upto_region 8 with fail
      obtain ⟨vt6, vg6, vh6, vs6, qo6, qn6, qc6, hbx6, hot6, hog6, hoh6, hos6, hoq6, hlt6_⟩ := (H.out.below HB_7.out).box
      have bl6 := hbx6.lt
      have f06 : w6g1.cell? ⟨d.pb, 0, none⟩ = some (.slice d.po d.pool.length d.pc) := hbx6.cell 0 _ rfl
      have f46 : w6g1.cell? ⟨d.pb, 4, none⟩ = some vh6 := hbx6.cell 4 _ rfl
      obtain ⟨hoo6, hc6, rfl⟩ := hoh6.shape
      rw [hhl] at hoh6 f46
      obtain ⟨hb6_, ha6, hk6, hcc6, rfl, hhb6, ch6, _, hrw6⟩ := hoh6.get (i := i) (by omega)
      rw [Nat.zero_add] at ch6
      have HH6 := hid hrw6
      have lh6 := hrw6.len
      have lhh6 := HS.out.hs i hi
      clear hrw6 hbx6 hot6 hog6 hoh6 hos6 hoq6 hlt6_
      obtain ⟨ppb6, pof6, hpo6, hppb6⟩ := (H.out.below HB_7.out).pool.head (by omega)
      have cp6 := (H.out.below HB_7.out).pool.int hpo6 htk
      rw [hpo6] at f06
      rw [d.P_eq HO.out t] at cp6
      obtain ⟨db6, dof6, hdo6, hdb6⟩ := Rdi_7.out.head (by omega)
      have cd6 := Rdi_7.out.int hdo6 hrk
      rw [d.D_eq HO.out hi r] at cd6
      have cb06 := XU_7.out.cell 0 _ rfl
      have cb16 := XV_7.out.cell 1 _ rfl
      have lbx6 := XU_7.out.lt
      have lby6 := XV_7.out.lt
      rw [hdo6] at cb06
      rw [d.W_eq HO.out hj] at cb16
      have hdk6 : (r : Int) < (d.pool.length : Int) := by omega
      have hpk6 : (t : Int) < (d.pool.length : Int) := by omega
      obtain ⟨M16, hM16⟩ : ∃ M, M = d.a.D i r := ⟨_, rfl⟩
      obtain ⟨M26, hM26⟩ : ∃ M, M = d.a.P t := ⟨_, rfl⟩
      obtain ⟨M36, hM36⟩ : ∃ M, M = d.a.W j := ⟨_, rfl⟩
      rw [← hM16] at cd6
      rw [← hM26] at cp6
      rw [← hM36] at cb16
      obtain ⟨X16, hX16, hX1b6, hX1e6⟩ := nat_prod (a := M16) (b := M26) (A := 10000) (B := 10000) (by rw [hM16]; exact d.D_le HO.out hi _) (by rw [hM26]; exact d.P_le HO.out _)
      obtain ⟨X26, hX26, hX2b6, hX2e6⟩ := nat_prod (a := X16) (b := M36) (A := 100000000) (B := 100) (by omega) (by rw [hM36]; exact (d.W_le HO.out hj).2)
      have hX1i6 : (0 : Int) ≤ (X16 : Int) := by omega
      have hX1j6 : (X16 : Int) ≤ 100000000 := by omega
      have hX2i6 : (0 : Int) ≤ (X26 : Int) := by omega
      have hX2j6 : (X26 : Int) ≤ 10000000000 := by omega
      have hX1w6 : IntKind.i64.wrap (X16 : Int) = (X16 : Int) := Go.IntWalk.i64_in _ ⟨by omega, by omega⟩
      have hX2w6 : IntKind.i64.wrap (X26 : Int) = (X26 : Int) := Go.IntWalk.i64_in _ ⟨by omega, by omega⟩
      have HXE6 : Hid (X26 = d.a.D i r * d.a.P t * d.a.W j) := by rw [Hid, hX2e6, hX1e6, hM16, hM26, hM36]
      clear hM16 hM26 hM36 hX1e6 hX2e6
      have SK : Hid (∀ U, Below w6g1.heap.size w6g1 U → U.cell? ⟨d.pb, 4, none⟩ = some (.slice (some ⟨hb6_, 0, none⟩) d.us.length hc6) ∧ U.cell? ⟨hb6_, i, none⟩ = some (.slice ha6 hk6 hcc6) ∧ U.cell? ⟨w.heap.size, 0, none⟩ = some (.slice (some ⟨db6, dof6, none⟩) d.pool.length dci) ∧ U.cell? ⟨db6, dof6 + r, none⟩ = some (.int .i64 (M16 : Int)) ∧ U.cell? ⟨d.pb, 0, none⟩ = some (.slice (some ⟨ppb6, pof6, none⟩) d.pool.length d.pc) ∧ U.cell? ⟨ppb6, pof6 + t, none⟩ = some (.int .i64 (M26 : Int)) ∧ U.cell? ⟨(w.heap.size + 1), 1, none⟩ = some (.int .i64 (M36 : Int))) := fun U h => ⟨(h.cell (p := ⟨d.pb, 4, none⟩) bl6).trans f46, (h.cell (p := ⟨hb6_, i, none⟩) hhb6).trans ch6, (h.cell (p := ⟨w.heap.size, 0, none⟩) lbx6).trans cb06, (h.cell (p := ⟨db6, dof6 + r, none⟩) hdb6).trans cd6, (h.cell (p := ⟨d.pb, 0, none⟩) bl6).trans f06, (h.cell (p := ⟨ppb6, pof6 + t, none⟩) hppb6).trans cp6, (h.cell (p := ⟨(w.heap.size + 1), 1, none⟩) lby6).trans cb16⟩
      have df46 : w6g1.drew.cell? ⟨d.pb, 4, none⟩ = some (.slice (some ⟨hb6_, 0, none⟩) d.us.length hc6) := ((Below.refl w6g1.heap.size w6g1).drew.cell (p := ⟨d.pb, 4, none⟩) bl6).trans f46
      have dch6 : w6g1.drew.cell? ⟨hb6_, i, none⟩ = some (.slice ha6 hk6 hcc6) := ((Below.refl w6g1.heap.size w6g1).drew.cell (p := ⟨hb6_, i, none⟩) hhb6).trans ch6
      have dcb06 : w6g1.drew.cell? ⟨w.heap.size, 0, none⟩ = some (.slice (some ⟨db6, dof6, none⟩) d.pool.length dci) := ((Below.refl w6g1.heap.size w6g1).drew.cell (p := ⟨w.heap.size, 0, none⟩) lbx6).trans cb06
      have dcd6 : w6g1.drew.cell? ⟨db6, dof6 + r, none⟩ = some (.int .i64 (M16 : Int)) := ((Below.refl w6g1.heap.size w6g1).drew.cell (p := ⟨db6, dof6 + r, none⟩) hdb6).trans cd6
      have df06 : w6g1.drew.cell? ⟨d.pb, 0, none⟩ = some (.slice (some ⟨ppb6, pof6, none⟩) d.pool.length d.pc) := ((Below.refl w6g1.heap.size w6g1).drew.cell (p := ⟨d.pb, 0, none⟩) bl6).trans f06
      have dcp6 : w6g1.drew.cell? ⟨ppb6, pof6 + t, none⟩ = some (.int .i64 (M26 : Int)) := ((Below.refl w6g1.heap.size w6g1).drew.cell (p := ⟨ppb6, pof6 + t, none⟩) hppb6).trans cp6
      have dcb16 : w6g1.drew.cell? ⟨(w.heap.size + 1), 1, none⟩ = some (.int .i64 (M36 : Int)) := ((Below.refl w6g1.heap.size w6g1).drew.cell (p := ⟨(w.heap.size + 1), 1, none⟩) lby6).trans cb16
      go_region_held3 (fun w' => w'.cell? ⟨d.pb, 4, none⟩ = some (.slice (some ⟨hb6_, 0, none⟩) d.us.length hc6) ∧ w'.cell? ⟨hb6_, i, none⟩ = some (.slice ha6 hk6 hcc6) ∧ w'.cell? ⟨w.heap.size, 0, none⟩ = some (.slice (some ⟨db6, dof6, none⟩) d.pool.length dci) ∧ w'.cell? ⟨db6, dof6 + r, none⟩ = some (.int .i64 (M16 : Int)) ∧ w'.cell? ⟨d.pb, 0, none⟩ = some (.slice (some ⟨ppb6, pof6, none⟩) d.pool.length d.pc) ∧ w'.cell? ⟨ppb6, pof6 + t, none⟩ = some (.int .i64 (M26 : Int)) ∧ w'.cell? ⟨(w.heap.size + 1), 1, none⟩ = some (.int .i64 (M36 : Int))) (first | exact SK.out _ (Below.refl _ _).drew | exact SK.out _ hv8g0 | exact SK.out _ hv8g1)
        (first | (go_at_call 37; refine (ptimes_any ha6 wo6 hk6 hcc6 wn6 wc6 (nn s.hl i) X26 _ (HH6.out.below hv8g0) HWR6.out (by omega) (by omega)).mono ?_; rintro e8g1 w8g1 ⟨vv6, rfl, ⟨bo, bn, bc, rfl, hbr, _⟩, hb8g1⟩; have hv8g1 : Below w6g1.heap.size w6g1 w8g1 := hv8g0.trans (hb8g1.mono (hv8g0).size); clear hb8g1; have lb : bn ≤ 310 := (by rw [← hbr.len]; have h9 := len_mul (nn s.hl i) X26; have h8 := HWR6.out.len; omega); have HBR := hid hbr; clear hbr) | (go_at_call 35; refine (pwhole_any X26 _ (by omega)).mono ?_; rintro e8g0 w8g0 ⟨vw6, rfl, ⟨wo6, wn6, wc6, rfl, hwr6, _⟩, hb8g0⟩; have hv8g0 : Below w6g1.heap.size w6g1 w8g0 := (Below.refl w6g1.heap.size w6g1).drew.trans (hb8g0.mono ((Below.refl w6g1.heap.size w6g1).drew).size); clear hb8g0; have lw6 : wn6 ≤ 3 := (by rw [← hwr6.len]; have h9 := len_mono (a := X26) (b := 10000000000) (by omega); have e9 : (limbs 10000000000).length = 3 := (by decide); omega); have HWR6 := hid hwr6; clear hwr6))
      clear SK df46 dch6 dcb06 dcd6 df06 dcp6 dcb16
      have XU_9 := hid (XU_7.out.keep hv8g1)
      have XV_9 := hid (XV_7.out.keep hv8g1)
      have Rdi_9 := hid (Rdi_7.out.below hv8g1)
      have Rdj_9 := hid (Rdj_7.out.below hv8g1)
      have Ra_9 := hid (HAR.out.below hv8g1)
      have HB_9 : Hid (Below (w.heap.size) w w8g1) := HB_7.out.trans (hv8g1.mono (HB_7.out.size))
      clear XU_7 XV_7 Rdi_7 Rdj_7 HAR HB_7
      clear f06 f46 ch6 hhb6 hppb6 cp6 hdb6 cd6 cb06 cb16 lbx6 lby6 hX16 hX26 hX1w6 hX2w6 hX1i6 hX1j6 hX2i6 hX2j6 hdk6 hpk6 HWR6 HH6 bl6
      go_wp2_with fail
      refine (pcmp_any ao bo an ac bn bc (nn s.hl j * X25) (nn s.hl i * X26) _ Ra_9.out HBR.out (by omega) (by omega)).mono ?_
      rintro e9 w9 ⟨rfl, hb9⟩
      have XU_10 := hid (XU_9.out.keep hb9)
      have XV_10 := hid (XV_9.out.keep hb9)
      have Rdi_10 := hid (Rdi_9.out.below hb9)
      have Rdj_10 := hid (Rdj_9.out.below hb9)
      have Ra_10 := hid (Ra_9.out.below hb9)
      have Rb_10 := hid (HBR.out.below hb9)
      have HB_10 : Hid (Below (w.heap.size) w w9) := HB_9.out.trans (hb9.mono (HB_9.out.size))
      clear XU_9 XV_9 Rdi_9 Rdj_9 Ra_9 HBR HB_9
      clear hb9
      have HIFF : Hid (d.lv i < d.lv j ↔ nn s.hl i * X26 < nn s.hl j * X25) := by rw [HXE5.out, HXE6.out]; exact HE.out.above2 HO.out hi hj HRT.out HTT.out
      by_cases hc : nn s.hl i * X26 < nn s.hl j * X25
      · have HN := hid (HIFF.out.2 hc)
        have hcc : 0 < cmp3 ((nn s.hl j * X25 : Nat) : Int) ((nn s.hl i * X26 : Nat) : Int) := cmp3_up.2 hc
        generalize cmp3 ((nn s.hl j * X25 : Nat) : Int) ((nn s.hl i * X26 : Nat) : Int) = cc at hcc ⊢
        clear hc
        go_wp2
        go_ret
        exact ⟨⟨true, rfl, fun _ => HN.out, fun _ => rfl⟩, HB_10.out⟩
      · have HN := hid (fun h5 => hc (HIFF.out.1 h5))
        have hcc : ¬ 0 < cmp3 ((nn s.hl j * X25 : Nat) : Int) ((nn s.hl i * X26 : Nat) : Int) := fun h5 => hc (cmp3_up.1 h5)
        have hcd : decide (0 < cmp3 ((nn s.hl j * X25 : Nat) : Int) ((nn s.hl i * X26 : Nat) : Int)) = false := decide_eq_false hcc
        generalize cmp3 ((nn s.hl j * X25 : Nat) : Int) ((nn s.hl i * X26 : Nat) : Int) = cc at hcc hcd ⊢
        clear hc
        go_wp2
        go_ret
        exact ⟨⟨false, rfl, fun h5 => (by cases h5), fun h5 => absurd h5 HN.out⟩, HB_10.out⟩

set_option maxHeartbeats 20000000 in
set_option maxRecDepth 20000 in
theorem pholds_any (d : RD) (s : RV) (r i : Nat) (w : World) (h : RisM w d s) (ho : d.Ok) (hs : s.Ok d) (he : REnd d s) (hle : ∀ i, i < d.us.length → bn s.sl i = false → d.a.D i r * nn s.hl i ≤ leftT d.a s.R r i) (hr : r < d.pool.length) (hi : i < d.us.length) :
    Calls Tryz.prog 42 #[.pointer (some ⟨d.pb, 0, none⟩), .int .i64 r, .int .i64 i] w fun e w' => (∃ b : Bool, e = .returned (.bool b) ∧ (b = true ↔ HoldsN d r i)) ∧ Below w.heap.size w w' := by
  have hk4 := ho.k4
  have hk1 := ho.k1
  have hn6 := ho.n6
  have H := hid h
  have HO := hid ho
  have HS := hid hs
  have HE := hid he
  have HLE := hid hle
  clear h ho hs he hle
  have hin : (i : Int) < (d.us.length : Int) := by omega
  have hrn : (r : Int) < (d.pool.length : Int) := by omega
  have HB_0 := hid (Below.refl w.heap.size w)
  go_enter Tryz.func42, Tryz.ntmps42
  go_wp2_with fail
  refine (pleft_any d s r _ H.out HO.out HS.out hr HLE.out).mono ?_
  rintro e1 w1 ⟨xo, xn, xc, rfl, hxr, lx, hb1⟩
  have HB_6 : Hid (Below (w.heap.size) w w1) := HB_0.out.trans (hb1.mono (HB_0.out.size))
  clear HB_0
  have lxl := hxr.len
  clear hb1 hxr
  obtain ⟨vt2, vg2, vh2, vs2, qo2, qn2, qc2, hbx2, hot2, hog2, hoh2, hos2, hoq2, hlt2_⟩ := (H.out.below HB_6.out).box
  have bl2 := hbx2.lt
  have g12 : w1.cell? ⟨d.pb, 1, none⟩ = some (.slice d.ao d.us.length d.cap) := hbx2.cell 1 _ rfl
  clear hbx2 hot2 hog2 hoh2 hos2 hoq2 hlt2_
  obtain ⟨ub2, uo2, da2, dn2, dc2, hao2, hbl2, a02, a12, a22, hd2⟩ := (H.out.users.below HB_6.out).get hi
  rw [hao2] at g12
  have hdl2 := hd2.len
  rw [ints_len, HO.out.good.len hi] at hdl2
  subst hdl2
  obtain ⟨db2, dof2, hdo2, hdb2⟩ := hd2.head (by omega)
  have cd2 := hd2.int hdo2 hr
  subst hdo2
  clear a12 a22 hd2
  by_cases hd0 : lm (ug d.us i).dem r = 0
  · have HN : Hid (¬ HoldsN d r i) := fun h5 => by have := h5.1; omega
    rw [hd0] at cd2
    clear hd0
    go_wp2
    go_ret
    exact ⟨⟨false, rfl, fun h5 => (by cases h5), fun h5 => absurd h5 HN.out⟩, HB_6.out⟩
  · have hdp : 0 < lm (ug d.us i).dem r := by have := (amt_rng (HO.out.good.dem hi r)).1; omega
    have hd1 : (lm (ug d.us i).dem r == 0) = false := by rw [beq_eq_false_iff_ne]; exact hd0
    have HDP := hid hdp
    clear hdp hd0
    by_cases hl0 : lft d.a s.R r = 0
    · have HUP := hid ((HE.out.lf r hr).1 hl0)
      have hx0 : xn = 0 := by rw [← lxl, hl0, limbs_zero]; rfl
      subst hx0
      clear lxl hl0
      go_wp2
      go_loopg [8] d.us.length (fun gg ix wr => ∃ k : Nat, gg = d.us.length - k ∧ k ≤ d.us.length ∧ ix = .int .i64 k ∧ Hid (∀ j, j < k → 0 < lm (ug d.us j).dem r → ¬ d.lv i < d.lv j) ∧ Hid (Below w.heap.size w wr))
      case atStart => exact ⟨0, rfl, Nat.zero_le _, rfl, fun j hj => by omega, HB_6.out⟩
      case round =>
        clear HB_6 g12 a02 cd2 hdb2 hbl2 bl2
        obtain ⟨k, hgk, hk, rfl, hz, hB⟩ := hrel
        by_cases hkt : k < d.us.length
        · have hkn : (k : Int) < (d.us.length : Int) := by omega
          obtain ⟨vt3, vg3, vh3, vs3, qo3, qn3, qc3, hbx3, hot3, hog3, hoh3, hos3, hoq3, hlt3_⟩ := (H.out.below hB.out).box
          have bl3 := hbx3.lt
          have g13 : wr.cell? ⟨d.pb, 1, none⟩ = some (.slice d.ao d.us.length d.cap) := hbx3.cell 1 _ rfl
          clear hbx3 hot3 hog3 hoh3 hos3 hoq3 hlt3_
          obtain ⟨ub3, uo3, da3, dn3, dc3, hao3, hbl3, a03, a13, a23, hd3⟩ := (H.out.users.below hB.out).get hkt
          rw [hao3] at g13
          have hdl3 := hd3.len
          rw [ints_len, HO.out.good.len hkt] at hdl3
          subst hdl3
          obtain ⟨db3, dof3, hdo3, hdb3⟩ := hd3.head (by omega)
          have cd3 := hd3.int hdo3 hr
          subst hdo3
          clear a13 a23 hd3
          have HST : Hid (¬ (0 < lm (ug d.us k).dem r ∧ d.lv i < d.lv k) → ∀ j, j < k + 1 → 0 < lm (ug d.us j).dem r → ¬ d.lv i < d.lv j) := fun h5 j h6 h7 h8 => by
            by_cases e : j = k
            · subst e; exact h5 ⟨h7, h8⟩
            · exact hz.out j (by omega) h7 h8
          by_cases hdk : 0 < lm (ug d.us k).dem r
          · go_wp2_with fail
            refine (pabove_any d s k i _ (H.out.below hB.out) HO.out HS.out HE.out hkt hi).mono ?_
            rintro e4 w4 ⟨⟨b, rfl, hbi⟩, hb4⟩
            have HBI := hid hbi
            have HDK := hid hdk
            clear hbi hdk
            have HB_41 : Hid (Below (w.heap.size) w w4) := hB.out.trans (hb4.mono (hB.out.size))
            clear hB
            clear hb4 g13 a03 cd3 hdb3 hbl3 bl3
            cases b with
            | true =>
              have HN : Hid (¬ HoldsN d r i) := fun h5 => h5.2.2 k hkt HDK.out (HBI.out.1 rfl)
              go_wp2
              go_ret
              exact ⟨⟨false, rfl, fun h5 => (by cases h5), fun h5 => absurd h5 HN.out⟩, HB_41.out⟩
            | false =>
              have HZ2 := hid (HST.out (fun h5 => by have := HBI.out.2 h5.2; cases this))
              go_wp2
              go_roundg (d.us.length - (k + 1))
              case measure => omega
              case rel => exact ⟨k + 1, rfl, by omega, by go_num, HZ2.out, HB_41.out⟩
          · have HZ2 := hid (HST.out (fun h5 => hdk h5.1))
            go_wp2
            go_roundg (d.us.length - (k + 1))
            case measure => omega
            case rel => exact ⟨k + 1, rfl, by omega, by go_num, HZ2.out, hB.out⟩
        · obtain rfl : k = d.us.length := by omega
          have HN : Hid (HoldsN d r i) := ⟨HDP.out, HUP.out, hz.out⟩
          obtain ⟨vt3, vg3, vh3, vs3, qo3, qn3, qc3, hbx3, hot3, hog3, hoh3, hos3, hoq3, hlt3_⟩ := (H.out.below hB.out).box
          have bl3 := hbx3.lt
          have g13 : wr.cell? ⟨d.pb, 1, none⟩ = some (.slice d.ao d.us.length d.cap) := hbx3.cell 1 _ rfl
          clear hbx3 hot3 hog3 hoh3 hos3 hoq3 hlt3_
          go_wp2
          go_ret
          exact ⟨⟨true, rfl, fun _ => HN.out, fun _ => rfl⟩, hB.out⟩
    · have HN : Hid (¬ HoldsN d r i) := fun h5 => hl0 ((HE.out.lf r hr).2 h5.2.1)
      have hx0 : 0 < xn := by have h7 : (limbs (lft d.a s.R r)).length ≠ 0 := fun h5 => hl0 (limbs_len_zero.1 h5); omega
      clear lxl hl0
      go_wp2
      go_ret
      exact ⟨⟨false, rfl, fun h5 => (by cases h5), fun h5 => absurd h5 HN.out⟩, HB_6.out⟩

end Go.Proofs.YtigokanoflkinaaGreatDoor

/- The rise of the reference: share. (Laid by mkrisek.py.) -/
namespace Go.Proofs.YtigokanoflkinaaGreatDoor
set_option linter.unusedSimpArgs false
set_option linter.unusedVariables false
open Go.RowKit Por

theorem ptext_as (m : Bool) (ao bo : Option Addr) (n capa k capb : Nat) (p q : Nat) (z : Rat) (t : ByteArray) (w : World) (h1 : Row w ao n capa (limbs p)) (h2 : Row w bo k capb (limbs q)) (b1 : n ≤ 8000) (b2 : k ≤ 8000) (hq : q ≠ 0) (hz : mkRat (sg m p) q = z) (ht : t = ⟨(txt z).toArray⟩) :
    Calls Tryz.prog 40 #[.agg #[.bool m, .slice ao n capa, .slice bo k capb]] w fun e w' => e = .returned (.string t) ∧ Below w.heap.size w w' := by
  have h9 := ptext_any m ao bo n capa k capb p q w h1 h2 b1 b2 hq
  rw [hz, ← ht] at h9
  exact h9
theorem RisM.haveLt {w w' : World} {d : RD} {s : RV} (h : RisM w d s) (hb : Below w.heap.size w w') {b n c : Nat} (e : w'.cell? ⟨d.pb, 4, none⟩ = some (.slice (some ⟨b, 0, none⟩) n c)) : b < w.heap.size := by
  obtain ⟨vt, vg, vh, vs, qo, qn, qc, hbx, _, _, h4, _⟩ := h.box
  have e4 : w.cell? ⟨d.pb, 4, none⟩ = some vh := hbx.cell 4 _ rfl
  have e5 := (hb.cell (p := ⟨d.pb, 4, none⟩) hbx.lt).trans e4
  rw [e] at e5
  cases e5
  exact NLs.lt h4 b n c rfl
theorem nat_prodK {a b A B : Nat} (ha : a ≤ A) (hb : b ≤ B) : ∃ X : Nat, (a : Int) * (b : Int) = (X : Int) ∧ X ≤ A * B ∧ X = a * b := ⟨a * b, by rw [Int.natCast_mul], Nat.mul_le_mul ha hb, rfl⟩

set_option maxHeartbeats 20000000 in
set_option maxRecDepth 20000 in
theorem pshare_any (d : RD) (s : RV) (i : Nat) (w : World) (h : RisM w d s) (ho : d.Ok) (hs : s.Ok d) (he : REnd d s) (hle : ∀ r, r < d.pool.length → ∀ i, i < d.us.length → bn s.sl i = false → d.a.D i r * nn s.hl i ≤ leftT d.a s.R r i) (hi : i < d.us.length) :
    Calls Tryz.prog 22 #[.pointer (some ⟨d.pb, 0, none⟩), .int .i64 i] w fun e w' => e = .returned (.agg #[.string ⟨(txt (d.ts i)).toArray⟩, .string ⟨(txt (d.lv i)).toArray⟩, .int .i64 (stopV d.fd (endS d.pool d.us) i)]) ∧ Below w.heap.size w w' := by
  have hk4 := ho.k4
  have hk1 := ho.k1
  have hn6 := ho.n6
  have H := hid h
  have HO := hid ho
  have HS := hid hs
  have HE := hid he
  have HLE := hid hle
  clear h ho hs he hle
  have hin : (i : Int) < (d.us.length : Int) := by omega
  obtain ⟨ta, hta⟩ : ∃ ta : ByteArray, ta = ⟨(txt (d.ts i)).toArray⟩ := ⟨_, rfl⟩
  have HTA := hid hta
  clear hta
  have HB_0 := hid (Below.refl w.heap.size w)
  go_enter Tryz.func22, Tryz.ntmps22
  obtain ⟨vt1, vg1, vh1, vs1, qo1, qn1, qc1, hbx1, hot1, hog1, hoh1, hos1, hoq1, hlt1_⟩ := (H.out.below HB_0.out).box
  have bl1 := hbx1.lt
  have e1 : w.cell? ⟨d.pb, 1, none⟩ = some (.slice d.ao d.us.length d.cap) := hbx1.cell 1 _ rfl
  clear hbx1 hot1 hog1 hoh1 hos1 hoq1 hlt1_
  obtain ⟨ub, uo, da, dn, dc, hao, hbl, a0, a1, a2, hd⟩ := H.out.users.get hi
  rw [hao] at e1
  clear hao
  have hdl := hd.len
  rw [ints_len, HO.out.good.len hi] at hdl
  subst hdl
  have HD := hid hd
  clear hd
  go_upto_region 2 with fail
  have HBV : Hid (Below w.heap.size w ((w.alloc (.cells #[.string ⟨#[]⟩, .string ⟨#[]⟩, .int .i64 0] 35)).alloc (.cells #[.slice da d.pool.length dc, .int .i64 (ug d.us i).wt, .int .i64 (ug d.us i).cap] 56))) := (HB_0.out.alloc (Nat.le_refl _) _).alloc (Nat.le_of_lt (by rw [World.size_alloc]; omega)) _
  have HRB : Hid (Bx ((w.alloc (.cells #[.string ⟨#[]⟩, .string ⟨#[]⟩, .int .i64 0] 35)).alloc (.cells #[.slice da d.pool.length dc, .int .i64 (ug d.us i).wt, .int .i64 (ug d.us i).cap] 56)) w.heap.size #[.string ⟨#[]⟩, .string ⟨#[]⟩, .int .i64 0] 35) := bx_past (bx_new w _ _) _
  have HUB : Hid (Bx ((w.alloc (.cells #[.string ⟨#[]⟩, .string ⟨#[]⟩, .int .i64 0] 35)).alloc (.cells #[.slice da d.pool.length dc, .int .i64 (ug d.us i).wt, .int .i64 (ug d.us i).cap] 56)) (w.heap.size + 1) #[.slice da d.pool.length dc, .int .i64 (ug d.us i).wt, .int .i64 (ug d.us i).cap] 56) := by have h9 := bx_new (w.alloc (.cells #[.string ⟨#[]⟩, .string ⟨#[]⟩, .int .i64 0] 35)) #[.slice da d.pool.length dc, .int .i64 (ug d.us i).wt, .int .i64 (ug d.us i).cap] 56; rw [World.size_alloc] at h9; exact h9
  have HVS : Hid (((w.alloc (.cells #[.string ⟨#[]⟩, .string ⟨#[]⟩, .int .i64 0] 35)).alloc (.cells #[.slice da d.pool.length dc, .int .i64 (ug d.us i).wt, .int .i64 (ug d.us i).cap] 56)).heap.size = w.heap.size + 2) := by show _ = _; rw [World.size_alloc, World.size_alloc]
  obtain ⟨V0, hV0⟩ : ∃ V0, V0 = (w.alloc (.cells #[.string ⟨#[]⟩, .string ⟨#[]⟩, .int .i64 0] 35)).alloc (.cells #[.slice da d.pool.length dc, .int .i64 (ug d.us i).wt, .int .i64 (ug d.us i).cap] 56) := ⟨_, rfl⟩
  rw [← hV0] at HBV HRB HUB HVS ⊢
  have HPL := hid bl1
  clear hV0 HB_0 e1 hbl a0 a1 a2 bl1
  obtain ⟨vt2, vg2, vh2, vs2, qo2, qn2, qc2, hbx2, hot2, hog2, hoh2, hos2, hoq2, hlt2_⟩ := (H.out.below HBV.out).box
  have bl2 := hbx2.lt
  have f42 : V0.cell? ⟨d.pb, 4, none⟩ = some vh2 := hbx2.cell 4 _ rfl
  obtain ⟨hoo2, hc2, rfl⟩ := hoh2.shape
  rw [HS.out.hl] at hoh2 f42
  obtain ⟨hb2_, ha2, hk2, hcc2, rfl, hhb2, ch2, _, hrw2⟩ := hoh2.get (i := i) (by rw [HS.out.hl]; exact hi)
  rw [Nat.zero_add] at ch2
  have HH2 := hid hrw2
  have lh2 : hk2 ≤ 300 := by rw [← hrw2.len]; exact HS.out.hs i hi
  have f62 : V0.cell? ⟨d.pb, 6, none⟩ = some (.slice qo2 qn2 qc2) := hbx2.cell 6 _ rfl
  have HQ2 := hid hoq2
  have lq2 : qn2 ≤ 300 := by rw [← hoq2.len]; exact HS.out.q
  clear hbx2 hot2 hog2 hoh2 hos2 hoq2 hlt2_
  have SK : Hid (∀ U, Below V0.heap.size V0 U → U.cell? ⟨d.pb, 4, none⟩ = some (.slice (some ⟨hb2_, 0, none⟩) d.us.length hc2) ∧ U.cell? ⟨hb2_, i, none⟩ = some (.slice ha2 hk2 hcc2) ∧ U.cell? ⟨d.pb, 6, none⟩ = some (.slice qo2 qn2 qc2)) := fun U h => ⟨(h.cell (p := ⟨d.pb, 4, none⟩) bl2).trans f42, (h.cell (p := ⟨hb2_, i, none⟩) hhb2).trans ch2, (h.cell (p := ⟨d.pb, 6, none⟩) bl2).trans f62⟩
  have KC : Hid (∀ U, Below V0.heap.size V0 U → Calls Tryz.prog 40 #[.agg #[.bool false, .slice ha2 hk2 hcc2, .slice qo2 qn2 qc2]] U (fun e w' => e = .returned (.string ta) ∧ Below V0.heap.size V0 w' ∧ Below U.heap.size U w')) := fun U hU => (ptext_as false ha2 qo2 hk2 hcc2 qn2 qc2 (nn s.hl i) s.q (d.ts i) ta U (HH2.out.below hU) (HQ2.out.below hU) (by omega) (by omega) (Nat.pos_iff_ne_zero.1 HE.out.q0) (HE.out.text hi) HTA.out).mono (fun e w' ⟨h1, h3⟩ => ⟨h1, hU.trans (h3.mono hU.size), h3⟩)
  go_cut [6] (fun pp wx => ∃ (PB : Nat), pp = .pointer (some ⟨PB, 0, none⟩) ∧ Hid (Bx wx w.heap.size #[.string ⟨#[]⟩, .string ⟨#[]⟩, .int .i64 0] 35) ∧ Hid (Bx wx (w.heap.size + 1) #[.slice da d.pool.length dc, .int .i64 (ug d.us i).wt, .int .i64 (ug d.us i).cap] 56) ∧ Hid (Bx wx PB #[.string ta, .string ⟨#[48]⟩, .int .i64 (-1)] 35) ∧ Hid (Below w.heap.size w wx) ∧ V0.heap.size ≤ PB)
  case first =>
    have df42 : V0.drew.cell? ⟨d.pb, 4, none⟩ = some (.slice (some ⟨hb2_, 0, none⟩) d.us.length hc2) := ((Below.refl V0.heap.size V0).drew.cell (p := ⟨d.pb, 4, none⟩) bl2).trans f42
    have dch2 : V0.drew.cell? ⟨hb2_, i, none⟩ = some (.slice ha2 hk2 hcc2) := ((Below.refl V0.heap.size V0).drew.cell (p := ⟨hb2_, i, none⟩) hhb2).trans ch2
    have df62 : V0.drew.cell? ⟨d.pb, 6, none⟩ = some (.slice qo2 qn2 qc2) := ((Below.refl V0.heap.size V0).drew.cell (p := ⟨d.pb, 6, none⟩) bl2).trans f62
    go_region_held3 (fun w' => w'.cell? ⟨d.pb, 4, none⟩ = some (.slice (some ⟨hb2_, 0, none⟩) d.us.length hc2) ∧ w'.cell? ⟨hb2_, i, none⟩ = some (.slice ha2 hk2 hcc2) ∧ w'.cell? ⟨d.pb, 6, none⟩ = some (.slice qo2 qn2 qc2)) (first | exact SK.out _ (Below.refl _ _).drew | exact SK.out _ ((Below.refl _ _).alloc (Nat.le_refl _) _).drew | exact SK.out _ hb7 | exact SK.out _ (hb7.alloc hb7.size _) | exact SK.out _ (below_put3 hb7 (Nat.le_refl _) _ _ _))
      (first | (go_at_call 40; refine (KC.out _ ?hU).mono ?_; (case hU => first | exact (Below.refl _ _).drew | exact ((Below.refl _ _).alloc (Nat.le_refl _) _).drew); rintro e7 w7 ⟨rfl, hb7, hu7⟩; try (have XP7 := (bx_new V0 #[.string ⟨#[]⟩, .string ⟨#[]⟩, .int .i64 0] 35).drew.keep hu7; have xp0 := XP7.cell 0 _ rfl; have xp1 := XP7.cell 1 _ rfl; have xp2 := XP7.cell 2 _ rfl; have xf0 := XP7.frozen 0; have xf1 := XP7.frozen 1; have xf2 := XP7.frozen 2; have xl := XP7.lt; clear XP7)))
    all_goals (go_wp2_with fail; go_meet)
    all_goals (first | exact ⟨w7.heap.size, rfl, bx_past (HRB.out.keep hb7) _, bx_past (HUB.out.keep hb7) _, bx_new w7 _ _, (HBV.out.trans (hb7.mono HBV.out.size)).alloc (Nat.le_trans HBV.out.size hb7.size) _, hb7.size⟩ | exact ⟨V0.heap.size, rfl, HRB.out.keep (below_put3 hb7 (Nat.le_refl _) _ _ _), HUB.out.keep (below_put3 hb7 (Nat.le_refl _) _ _ _), Bx.put3 ((bx_new V0 #[.string ⟨#[]⟩, .string ⟨#[]⟩, .int .i64 0] 35).drew.keep hu7) _ _ _, below_put3 (HBV.out.trans (hb7.mono HBV.out.size)) HBV.out.size _ _ _, Nat.le_refl _⟩)
  case rest =>
    obtain ⟨PBx, rfl, XR_7, XU_7, XxB_7, HB_7, lePBx⟩ := hcut
    clear SK KC HRB HUB HBV
    clear f42 ch2 hhb2 f62 HH2 HQ2 bl2
    obtain ⟨vt3, vg3, vh3, vs3, qo3, qn3, qc3, hbx3, hot3, hog3, hoh3, hos3, hoq3, hlt3_⟩ := (H.out.below HB_7.out).box
    have bl3 := hbx3.lt
    have e2a : wc.cell? ⟨d.pb, 2, none⟩ = some vt3 := hbx3.cell 2 _ rfl
    obtain ⟨tto, ttc, rfl, htra, _⟩ := hot3.row
    have htr : Row wc tto d.us.length ttc s.tl := by have h9 := htra; rw [HS.out.tl] at h9; exact h9
    have e2 : wc.cell? ⟨d.pb, 2, none⟩ = some (.slice tto d.us.length ttc) := by have h9 := e2a; rw [HS.out.tl] at h9; exact h9
    clear e2a htra
    obtain ⟨tb, tof, htt, htb⟩ := htr.head (by omega)
    rw [htt] at e2
    have ct := htr.cell tb tof htt i hi
    clear htr htt hbx3 hot3 hog3 hoh3 hos3 hoq3 hlt3_
    rcases HE.out.tops.get HO.out hi with ⟨htv, _⟩ | ⟨hti, hte, hT1⟩
    · rw [htv] at ct
      have HPX : Hid (w.heap.size < PBx) := by show w.heap.size < PBx; have h9 := HVS.out; omega
      have HL0 := hid (HE.out.level0 HO.out hi (by rw [htv]; omega))
      clear htv
      have HLT : Hid ((⟨#[48]⟩ : ByteArray) = ⟨(txt (d.lv i)).toArray⟩) := by rw [Hid, HL0.out, txt_zero]
      have HLV : Hid (∀ z : Int, (Ending.returned (.agg #[.string ⟨(txt (d.ts i)).toArray⟩, .string ⟨#[48]⟩, .int .i64 z]) : Ending) = .returned (.agg #[.string ⟨(txt (d.ts i)).toArray⟩, .string ⟨(txt (d.lv i)).toArray⟩, .int .i64 z])) := fun z => by rw [HLT.out]
      obtain ⟨vt6, vg6, vh6, vs6, qo6, qn6, qc6, hbx6, hot6, hog6, hoh6, hos6, hoq6, hlt6_⟩ := (H.out.below HB_7.out).box
      have bl6 := hbx6.lt
      have f66 : wc.cell? ⟨d.pb, 6, none⟩ = some (.slice qo6 qn6 qc6) := hbx6.cell 6 _ rfl
      have HQ6 := hid hoq6
      have lq6 : qn6 ≤ 300 := by rw [← hoq6.len]; exact HS.out.q
      clear hbx6 hot6 hog6 hoh6 hos6 hoq6 hlt6_
      have cu2 := XU_7.out.cell 2 _ rfl
      have lu := XU_7.out.lt
      obtain ⟨M, hM⟩ : ∃ M : Nat, (ug d.us i).cap = (M : Int) ∧ M = d.a.C i := ⟨_, d.C_eq HO.out hi, rfl⟩
      have cu2b : wc.cell? ⟨w.heap.size + 1, 2, none⟩ = some (.int .i64 (M : Int)) := by rw [← hM.1]; exact cu2
      have hM2 : M ≤ 10000 := by rw [hM.2]; have := d.C_le HO.out hi; omega
      have HMD := hid hM.2
      clear hM cu2
      go_upto_region 6 with fail
      have SK : Hid (∀ U, Below wc.heap.size wc U → U.cell? ⟨w.heap.size + 1, 2, none⟩ = some (.int .i64 (M : Int)) ∧ U.cell? ⟨d.pb, 6, none⟩ = some (.slice qo6 qn6 qc6)) := fun U h => ⟨(h.cell (p := ⟨w.heap.size + 1, 2, none⟩) lu).trans cu2b, (h.cell (p := ⟨d.pb, 6, none⟩) bl6).trans f66⟩
      have dcu2b : wc.drew.cell? ⟨w.heap.size + 1, 2, none⟩ = some (.int .i64 (M : Int)) := ((Below.refl wc.heap.size wc).drew.cell (p := ⟨w.heap.size + 1, 2, none⟩) lu).trans cu2b
      have df66 : wc.drew.cell? ⟨d.pb, 6, none⟩ = some (.slice qo6 qn6 qc6) := ((Below.refl wc.heap.size wc).drew.cell (p := ⟨d.pb, 6, none⟩) bl6).trans f66
      go_region_held3 (fun w' => w'.cell? ⟨w.heap.size + 1, 2, none⟩ = some (.int .i64 (M : Int)) ∧ w'.cell? ⟨d.pb, 6, none⟩ = some (.slice qo6 qn6 qc6)) (first | exact SK.out _ (Below.refl _ _).drew | exact SK.out _ hv8g0 | exact SK.out _ hv8g1)
        (first | (go_at_call 37; refine (ptimes_any wo6 qo6 wn6 wc6 qn6 qc6 M s.q _ HWR6.out (HQ6.out.below hv8g0) (by omega) (by omega)).mono ?_; rintro e8g1 w8g1 ⟨vm6, rfl, ⟨mo, mn, mc, rfl, hmr, _⟩, hb8g1⟩; have hv8g1 : Below wc.heap.size wc w8g1 := hv8g0.trans (hb8g1.mono (hv8g0).size); clear hb8g1; have lm6 : mn ≤ 302 := (by rw [← hmr.len]; have h9 := len_mul M s.q; have h8 := HWR6.out.len; have h7 := HQ6.out.len; omega); have HMR := hid hmr; clear hmr) | (go_at_call 35; refine (pwhole_any M _ (by omega)).mono ?_; rintro e8g0 w8g0 ⟨vw6, rfl, ⟨wo6, wn6, wc6, rfl, hwr6, _⟩, hb8g0⟩; have hv8g0 : Below wc.heap.size wc w8g0 := (Below.refl wc.heap.size wc).drew.trans (hb8g0.mono ((Below.refl wc.heap.size wc).drew).size); clear hb8g0; have lw6 : wn6 ≤ 2 := (by rw [← hwr6.len]; exact len_sml hM2); have HWR6 := hid hwr6; clear hwr6))
      clear SK dcu2b df66
      have XR_9 := hid (XR_7.out.keep hv8g1)
      have XU_9 := hid (XU_7.out.keep hv8g1)
      have XxB_9 := hid (XxB_7.out.keep hv8g1)
      have HB_9 : Hid (Below (w.heap.size) w w8g1) := HB_7.out.trans (hv8g1.mono (HB_7.out.size))
      clear XR_7 XU_7 XxB_7 HB_7
      clear cu2b lu f66 HWR6 HQ6 bl6
      obtain ⟨vt7, vg7, vh7, vs7, qo7, qn7, qc7, hbx7, hot7, hog7, hoh7, hos7, hoq7, hlt7_⟩ := (H.out.below HB_9.out).box
      have bl7 := hbx7.lt
      have f47 : w8g1.cell? ⟨d.pb, 4, none⟩ = some vh7 := hbx7.cell 4 _ rfl
      obtain ⟨hoo7, hc7, rfl⟩ := hoh7.shape
      rw [HS.out.hl] at hoh7 f47
      obtain ⟨hb7_, ha7, hk7, hcc7, rfl, hhb7, ch7, _, hrw7⟩ := hoh7.get (i := i) (by rw [HS.out.hl]; exact hi)
      rw [Nat.zero_add] at ch7
      have HH7 := hid hrw7
      have lh7 : hk7 ≤ 300 := by rw [← hrw7.len]; exact HS.out.hs i hi
      clear hbx7 hot7 hog7 hoh7 hos7 hoq7 hlt7_
      go_wp2_with fail
      refine (pcmp_any ha7 mo hk7 hcc7 mn mc (nn s.hl i) (M * s.q) _ HH7.out HMR.out (by omega) (by omega)).mono ?_
      rintro e7 w7 ⟨rfl, hb7⟩
      have XR_10 := hid (XR_9.out.keep hb7)
      have XU_10 := hid (XU_9.out.keep hb7)
      have XxB_10 := hid (XxB_9.out.keep hb7)
      have Rm_10 := hid (HMR.out.below hb7)
      have HB_10 : Hid (Below (w.heap.size) w w7) := HB_9.out.trans (hb7.mono (HB_9.out.size))
      clear XR_9 XU_9 XxB_9 HMR HB_9
      clear hb7 f47 ch7 hhb7 HH7 bl7
      by_cases hc : nn s.hl i = M * s.q
      · have HST : Hid (stopV d.fd (endS d.pool d.us) i = -1) := stopV_cap ((HE.out.cap HO.out hi).1 (by rw [hc, HMD.out]))
        have hcc : cmp3 ((nn s.hl i : Nat) : Int) ((M * s.q : Nat) : Int) = 0 := cmp3_zero.2 hc
        rw [hcc]
        clear hc hcc
        have x0 := XxB_10.out.cell 0 _ rfl
        have r0 := XR_10.out.cell 0 _ rfl
        have q0 := XR_10.out.frozen 0
        have x1 := XxB_10.out.cell 1 _ rfl
        have r1 := XR_10.out.cell 1 _ rfl
        have q1 := XR_10.out.frozen 1
        have x2 := XxB_10.out.cell 2 _ rfl
        have r2 := XR_10.out.cell 2 _ rfl
        have q2 := XR_10.out.frozen 2
        have xl := XxB_10.out.lt
        have rl := XR_10.out.lt
        have HRF := hid (XR_10.out.put3 (.string ta) (.string ⟨#[48]⟩) (.int .i64 (-1)))
        have HBF := hid (below_put3 HB_10.out (Nat.le_refl _) (.string ta) (.string ⟨#[48]⟩) (.int .i64 (-1)))
        unfold wput3 at HRF HBF
        go_wp2
        have y0 := HRF.out.cell 0 _ rfl
        have y1 := HRF.out.cell 1 _ rfl
        have y2 := HRF.out.cell 2 _ rfl
        refine bodyPost_ret (v := .agg #[.string ta, .string ⟨#[48]⟩, .int .i64 (-1)]) (by simp [results, Tryz.results22, go_sem, y0, y1, y2]) rfl ⟨?_, HBF.out⟩
        rw [HTA.out]; rw [HST.out]; exact HLV.out _
      · have HNC : Hid ((endS d.pool d.us).ts i ≠ (((ug d.us i).cap : Int) : Rat)) := fun h5 => hc (by rw [HMD.out]; exact (HE.out.cap HO.out hi).2 h5)
        have hcc : (cmp3 ((nn s.hl i : Nat) : Int) ((M * s.q : Nat) : Int) == 0) = false := by rw [beq_eq_false_iff_ne]; exact fun h5 => hc (cmp3_zero.1 h5)
        generalize cmp3 ((nn s.hl i : Nat) : Int) ((M * s.q : Nat) : Int) = cc at hcc ⊢
        clear hc
        go_wp2
        go_loopg [10] d.pool.length (fun gg ix wr => ∃ r : Nat, gg = d.pool.length - r ∧ r ≤ d.pool.length ∧ ix = .int .i64 r ∧ Hid (∀ k, k < r → ¬ HoldsB d.fd (endS d.pool d.us) k i) ∧ Hid (Bx wr w.heap.size #[.string ⟨#[]⟩, .string ⟨#[]⟩, .int .i64 0] 35) ∧ Hid (Bx wr PBx #[.string ta, .string ⟨#[48]⟩, .int .i64 (-1)] 35) ∧ Hid (Below w.heap.size w wr))
        case atStart => exact ⟨0, rfl, Nat.zero_le _, rfl, fun k hk => by omega, XR_10.out, XxB_10.out, HB_10.out⟩
        case round =>
          clear XR_10 XxB_10 HB_10 XU_10
          obtain ⟨r, hgr, hr, rfl, hz, XR, XX, hB⟩ := hrel
          obtain ⟨vt8, vg8, vh8, vs8, qo8, qn8, qc8, hbx8, hot8, hog8, hoh8, hos8, hoq8, hlt8_⟩ := (H.out.below hB.out).box
          have bl8 := hbx8.lt
          have g08 : wr.cell? ⟨d.pb, 0, none⟩ = some (.slice d.po d.pool.length d.pc) := hbx8.cell 0 _ rfl
          clear hbx8 hot8 hog8 hoh8 hos8 hoq8 hlt8_
          by_cases hrt : r < d.pool.length
          · have hrn : (r : Int) < (d.pool.length : Int) := by omega
            go_wp2_with fail
            refine (pholds_any d s r i _ (H.out.below hB.out) HO.out HS.out HE.out (HLE.out r hrt) hrt hi).mono ?_
            rintro e9 w9 ⟨⟨b, rfl, hbi⟩, hb9⟩
            have HBI := hid hbi
            clear hbi
            have XR_61 := hid (XR.out.keep hb9)
            have XxB_61 := hid (XX.out.keep hb9)
            have HB_61 : Hid (Below (w.heap.size) w w9) := hB.out.trans (hb9.mono (hB.out.size))
            clear XR XX hB
            clear hb9 g08 bl8
            cases b with
            | false =>
              have HZ2 : Hid (∀ k, k < r + 1 → ¬ HoldsB d.fd (endS d.pool d.us) k i) := fun k hk h5 => by
                by_cases e : k = r
                · subst e; have := HBI.out.2 (holdsN_iff.2 h5); cases this
                · exact hz.out k (by omega) h5
              go_wp2
              go_roundg (d.pool.length - (r + 1))
              case measure => omega
              case rel => exact ⟨r + 1, rfl, by omega, by go_num, HZ2.out, XR_61.out, XxB_61.out, HB_61.out⟩
            | true =>
              have HST : Hid (stopV d.fd (endS d.pool d.us) i = (r : Int)) := stopV_at HNC.out hrt hz.out (holdsN_iff.1 (HBI.out.1 rfl))
              have hX9 := XxB_61
              have hR9 := XR_61
              have hB9 := HB_61
              have x2a := hX9.out.cell 2 _ rfl
              have z2a := hX9.out.frozen 2
              have xla := hX9.out.lt
              have HX10 : Hid (Bx (w9.setCell ⟨PBx, 2, none⟩ (.int .i64 r)) PBx #[.string ta, .string ⟨#[48]⟩, .int .i64 r] 35) := hX9.out.set2 _
              have HR10 : Hid (Bx (w9.setCell ⟨PBx, 2, none⟩ (.int .i64 r)) w.heap.size #[.string ⟨#[]⟩, .string ⟨#[]⟩, .int .i64 0] 35) := hR9.out.other _ _ (by show PBx ≠ w.heap.size; have := HPX.out; omega)
              have HB10 : Hid (Below w.heap.size w (w9.setCell ⟨PBx, 2, none⟩ (.int .i64 r))) := hB9.out.setCell (by show w.heap.size ≤ PBx; have := HPX.out; omega) _
              clear hX9 hR9 hB9
              go_upto_region 16 with fail
              obtain ⟨V9, hV9⟩ : ∃ V9, V9 = w9.setCell ⟨PBx, 2, none⟩ (.int .i64 r) := ⟨_, rfl⟩
              rw [← hV9] at HX10 HR10 HB10 ⊢
              clear hV9 x2a z2a xla XxB_61 XR_61 HB_61
              have x0 := HX10.out.cell 0 _ rfl
              have r0 := HR10.out.cell 0 _ rfl
              have q0 := HR10.out.frozen 0
              have x1 := HX10.out.cell 1 _ rfl
              have r1 := HR10.out.cell 1 _ rfl
              have q1 := HR10.out.frozen 1
              have x2 := HX10.out.cell 2 _ rfl
              have r2 := HR10.out.cell 2 _ rfl
              have q2 := HR10.out.frozen 2
              have xl := HX10.out.lt
              have rl := HR10.out.lt
              have HRF := hid (HR10.out.put3 (.string ta) (.string ⟨#[48]⟩) (.int .i64 ((r : Int))))
              have HBF := hid (below_put3 HB10.out (Nat.le_refl _) (.string ta) (.string ⟨#[48]⟩) (.int .i64 ((r : Int))))
              unfold wput3 at HRF HBF
              go_wp2
              have y0 := HRF.out.cell 0 _ rfl
              have y1 := HRF.out.cell 1 _ rfl
              have y2 := HRF.out.cell 2 _ rfl
              refine bodyPost_ret (v := .agg #[.string ta, .string ⟨#[48]⟩, .int .i64 ((r : Int))]) (by simp [results, Tryz.results22, go_sem, y0, y1, y2]) rfl ⟨?_, HBF.out⟩
              rw [HTA.out]; rw [HST.out]; exact HLV.out _
          · obtain rfl : r = d.pool.length := by omega
            exfalso
            obtain ⟨k, hk, h5⟩ := stop_some d.fd_of HO.out.good HO.out.pool hi HNC.out
            exact hz.out k hk h5
    · have HPX : Hid (w.heap.size < PBx) := by show w.heap.size < PBx; have h9 := HVS.out; omega
      obtain ⟨m, hm⟩ : ∃ m : Nat, m = (lm s.tl i).toNat := ⟨_, rfl⟩
      rw [← hm] at hT1 hte
      rw [← hte] at ct
      have hmk := hT1.lt
      have hmki : (m : Int) < (d.pool.length : Int) := by omega
      have HT1 := hid hT1
      clear hm hT1 hte hti
      obtain ⟨tl_, htl_⟩ : ∃ t : ByteArray, t = ⟨(txt (d.lv i)).toArray⟩ := ⟨_, rfl⟩
      have HTL := hid htl_
      clear htl_
      obtain ⟨vt5, vg5, vh5, vs5, qo5, qn5, qc5, hbx5, hot5, hog5, hoh5, hos5, hoq5, hlt5_⟩ := (H.out.below HB_7.out).box
      have bl5 := hbx5.lt
      have f45 : wc.cell? ⟨d.pb, 4, none⟩ = some vh5 := hbx5.cell 4 _ rfl
      obtain ⟨hoo5, hc5, rfl⟩ := hoh5.shape
      rw [HS.out.hl] at hoh5 f45
      obtain ⟨hb5_, ha5, hk5, hcc5, rfl, hhb5, ch5, _, hrw5⟩ := hoh5.get (i := i) (by rw [HS.out.hl]; exact hi)
      rw [Nat.zero_add] at ch5
      have HH5 := hid hrw5
      have lh5 : hk5 ≤ 300 := by rw [← hrw5.len]; exact HS.out.hs i hi
      have f65 : wc.cell? ⟨d.pb, 6, none⟩ = some (.slice qo5 qn5 qc5) := hbx5.cell 6 _ rfl
      have HQ5 := hid hoq5
      have lq5 : qn5 ≤ 300 := by rw [← hoq5.len]; exact HS.out.q
      have f05 : wc.cell? ⟨d.pb, 0, none⟩ = some (.slice d.po d.pool.length d.pc) := hbx5.cell 0 _ rfl
      clear hbx5 hot5 hog5 hoh5 hos5 hoq5 hlt5_
      obtain ⟨ppb, pof, hpo, hppbW⟩ := H.out.pool.head (by omega)
      have hppb : ppb < wc.heap.size := Nat.lt_of_lt_of_le hppbW HB_7.out.size
      have cp := (H.out.below HB_7.out).pool.int hpo hmk
      rw [hpo] at f05
      clear hpo
      rw [d.P_eq HO.out m] at cp
      obtain ⟨db, dof, hdo, hdbW⟩ := HD.out.head (by omega)
      have hdb : db < wc.heap.size := Nat.lt_of_lt_of_le hdbW HB_7.out.size
      have cd := (HD.out.below HB_7.out).int hdo hmk
      rw [d.D_eq HO.out hi m] at cd
      have cb0 := XU_7.out.cell 0 _ rfl
      have cb1 := XU_7.out.cell 1 _ rfl
      have lbu := XU_7.out.lt
      rw [hdo] at cb0
      clear hdo
      rw [d.W_eq HO.out hi] at cb1
      obtain ⟨M1, hM1⟩ : ∃ M, M = d.a.D i m := ⟨_, rfl⟩
      obtain ⟨M2, hM2⟩ : ∃ M, M = d.a.P m := ⟨_, rfl⟩
      obtain ⟨M3, hM3⟩ : ∃ M, M = d.a.W i := ⟨_, rfl⟩
      rw [← hM1] at cd
      rw [← hM2] at cp
      rw [← hM3] at cb1
      have hM1b : M1 ≤ 10000 := by rw [hM1]; exact d.D_le HO.out hi _
      obtain ⟨X1, hX1, hX1b, hX1e⟩ := nat_prodK (a := M2) (b := M3) (A := 10000) (B := 100) (by rw [hM2]; exact d.P_le HO.out _) (by rw [hM3]; exact (d.W_le HO.out hi).2)
      have hX1w : IntKind.i64.wrap (X1 : Int) = (X1 : Int) := Go.IntWalk.i64_in _ ⟨by omega, by omega⟩
      have hX0 : s.q * X1 ≠ 0 := by
        rw [hX1e, hM2, hM3]
        have h1 := HE.out.q0
        have h2 := HT1.out.P
        have h3 := (d.W_le HO.out hi).1
        exact Nat.pos_iff_ne_zero.1 (Nat.mul_pos h1 (Nat.mul_pos h2 (by omega)))
      have HX0 := hid hX0
      have HTX : Hid (mkRat (sg false (nn s.hl i * M1)) (s.q * X1) = d.lv i) := by rw [hX1e, hM1, hM2, hM3]; exact HE.out.level HO.out hi HT1.out
      clear hM1 hM2 hM3 hX1e hX0
      go_upto_region 5 with fail
      have hpx1 : d.pb ≠ PBx := by have h1 := HPL.out; have h2 := HPX.out; omega
      have hpx2 : hb5_ ≠ PBx := by have h1 := H.out.haveLt HB_7.out f45; have h2 := HPX.out; omega
      have hpx3 : w.heap.size + 1 ≠ PBx := by have h2 := lePBx; have h3 := HVS.out; omega
      have hpx4 : db ≠ PBx := by have h2 := HPX.out; omega
      have hpx5 : ppb ≠ PBx := by have h2 := HPX.out; omega
      have SK : Hid (∀ U, Below wc.heap.size wc U → U.cell? ⟨d.pb, 4, none⟩ = some (.slice (some ⟨hb5_, 0, none⟩) d.us.length hc5) ∧ U.cell? ⟨hb5_, i, none⟩ = some (.slice ha5 hk5 hcc5) ∧ U.cell? ⟨w.heap.size + 1, 0, none⟩ = some (.slice (some ⟨db, dof, none⟩) d.pool.length dc) ∧ U.cell? ⟨db, dof + m, none⟩ = some (.int .i64 (M1 : Int)) ∧ U.cell? ⟨d.pb, 6, none⟩ = some (.slice qo5 qn5 qc5) ∧ U.cell? ⟨d.pb, 0, none⟩ = some (.slice (some ⟨ppb, pof, none⟩) d.pool.length d.pc) ∧ U.cell? ⟨ppb, pof + m, none⟩ = some (.int .i64 (M2 : Int)) ∧ U.cell? ⟨w.heap.size + 1, 1, none⟩ = some (.int .i64 (M3 : Int))) := fun U h => ⟨(h.cell (p := ⟨d.pb, 4, none⟩) bl5).trans f45, (h.cell (p := ⟨hb5_, i, none⟩) hhb5).trans ch5, (h.cell (p := ⟨w.heap.size + 1, 0, none⟩) lbu).trans cb0, (h.cell (p := ⟨db, dof + m, none⟩) hdb).trans cd, (h.cell (p := ⟨d.pb, 6, none⟩) bl5).trans f65, (h.cell (p := ⟨d.pb, 0, none⟩) bl5).trans f05, (h.cell (p := ⟨ppb, pof + m, none⟩) hppb).trans cp, (h.cell (p := ⟨w.heap.size + 1, 1, none⟩) lbu).trans cb1⟩
      have df45 : wc.drew.cell? ⟨d.pb, 4, none⟩ = some (.slice (some ⟨hb5_, 0, none⟩) d.us.length hc5) := ((Below.refl wc.heap.size wc).drew.cell (p := ⟨d.pb, 4, none⟩) bl5).trans f45
      have dch5 : wc.drew.cell? ⟨hb5_, i, none⟩ = some (.slice ha5 hk5 hcc5) := ((Below.refl wc.heap.size wc).drew.cell (p := ⟨hb5_, i, none⟩) hhb5).trans ch5
      have dcb0 : wc.drew.cell? ⟨w.heap.size + 1, 0, none⟩ = some (.slice (some ⟨db, dof, none⟩) d.pool.length dc) := ((Below.refl wc.heap.size wc).drew.cell (p := ⟨w.heap.size + 1, 0, none⟩) lbu).trans cb0
      have dcd : wc.drew.cell? ⟨db, dof + m, none⟩ = some (.int .i64 (M1 : Int)) := ((Below.refl wc.heap.size wc).drew.cell (p := ⟨db, dof + m, none⟩) hdb).trans cd
      have df65 : wc.drew.cell? ⟨d.pb, 6, none⟩ = some (.slice qo5 qn5 qc5) := ((Below.refl wc.heap.size wc).drew.cell (p := ⟨d.pb, 6, none⟩) bl5).trans f65
      have df05 : wc.drew.cell? ⟨d.pb, 0, none⟩ = some (.slice (some ⟨ppb, pof, none⟩) d.pool.length d.pc) := ((Below.refl wc.heap.size wc).drew.cell (p := ⟨d.pb, 0, none⟩) bl5).trans f05
      have dcp : wc.drew.cell? ⟨ppb, pof + m, none⟩ = some (.int .i64 (M2 : Int)) := ((Below.refl wc.heap.size wc).drew.cell (p := ⟨ppb, pof + m, none⟩) hppb).trans cp
      have dcb1 : wc.drew.cell? ⟨w.heap.size + 1, 1, none⟩ = some (.int .i64 (M3 : Int)) := ((Below.refl wc.heap.size wc).drew.cell (p := ⟨w.heap.size + 1, 1, none⟩) lbu).trans cb1
      go_region_held3 (fun w' => w'.cell? ⟨d.pb, 4, none⟩ = some (.slice (some ⟨hb5_, 0, none⟩) d.us.length hc5) ∧ w'.cell? ⟨hb5_, i, none⟩ = some (.slice ha5 hk5 hcc5) ∧ w'.cell? ⟨w.heap.size + 1, 0, none⟩ = some (.slice (some ⟨db, dof, none⟩) d.pool.length dc) ∧ w'.cell? ⟨db, dof + m, none⟩ = some (.int .i64 (M1 : Int)) ∧ w'.cell? ⟨d.pb, 6, none⟩ = some (.slice qo5 qn5 qc5) ∧ w'.cell? ⟨d.pb, 0, none⟩ = some (.slice (some ⟨ppb, pof, none⟩) d.pool.length d.pc) ∧ w'.cell? ⟨ppb, pof + m, none⟩ = some (.int .i64 (M2 : Int)) ∧ w'.cell? ⟨w.heap.size + 1, 1, none⟩ = some (.int .i64 (M3 : Int))) (first | exact SK.out _ (Below.refl _ _).drew | exact SK.out _ hv8g0 | exact SK.out _ hv8g1 | exact SK.out _ hv8g2 | exact SK.out _ hv8g3 | exact SK.out _ hv8g4 | exact ⟨(cell_set_ne hpx1).trans (SK.out _ hv8g4).1, (cell_set_ne hpx2).trans (SK.out _ hv8g4).2.1, (cell_set_ne hpx3).trans (SK.out _ hv8g4).2.2.1, (cell_set_ne hpx4).trans (SK.out _ hv8g4).2.2.2.1, (cell_set_ne hpx1).trans (SK.out _ hv8g4).2.2.2.2.1, (cell_set_ne hpx1).trans (SK.out _ hv8g4).2.2.2.2.2.1, (cell_set_ne hpx5).trans (SK.out _ hv8g4).2.2.2.2.2.2.1, (cell_set_ne hpx3).trans (SK.out _ hv8g4).2.2.2.2.2.2.2⟩)
        (first | (go_at_call 40; refine (ptext_as false to1 to2 tn1 tc1 tn2 tc2 (nn s.hl i * M1) (s.q * X1) (d.lv i) tl_ _ HTR1c.out HTR2.out (by omega) (by omega) HX0.out HTX.out HTL.out).mono ?_; rintro e8g4 w8g4 ⟨rfl, hb8g4⟩; have hv8g4 : Below wc.heap.size wc w8g4 := hv8g3.trans (hb8g4.mono (hv8g3).size); clear hb8g4; skip; have xk := XxB_7.out.keep hv8g4; have xk1 := xk.cell 1 _ rfl; have xz1 := xk.frozen 1; have xkl := xk.lt; clear xk) | (go_at_call 37; refine (ptimes_any qo5 wo2 qn5 qc5 wn2 wc2 s.q X1 _ (HQ5.out.below hv8g2) HWR2.out (by omega) (by omega)).mono ?_; rintro e8g3 w8g3 ⟨vt2, rfl, ⟨to2, tn2, tc2, rfl, htr2, _⟩, hb8g3⟩; have hv8g3 : Below wc.heap.size wc w8g3 := hv8g2.trans (hb8g3.mono (hv8g2).size); have HTR1c := hid (HTR1b.out.below hb8g3); clear hb8g3; have lt2 : tn2 ≤ 302 := (by rw [← htr2.len]; have h9 := len_mul s.q X1; have h8 := HWR2.out.len; have h7 := HQ5.out.len; omega); have HTR2 := hid htr2; clear htr2) | (go_at_call 35; refine ((fun _ => pwhole_any X1 _ (by omega)) HTR1).mono ?_; rintro e8g2 w8g2 ⟨vw2, rfl, ⟨wo2, wn2, wc2, rfl, hwr2, _⟩, hb8g2⟩; have hv8g2 : Below wc.heap.size wc w8g2 := hv8g1.trans (hb8g2.mono (hv8g1).size); have HTR1b := hid (HTR1.out.below hb8g2); clear hb8g2; have lw2 : wn2 ≤ 2 := (by rw [← hwr2.len]; have h9 := len_mono (a := X1) (b := 1000000) (by omega); have e9 : (limbs 1000000).length = 2 := (by decide); omega); have HWR2 := hid hwr2; clear hwr2) | (go_at_call 37; refine (ptimes_any ha5 wo1 hk5 hcc5 wn1 wc1 (nn s.hl i) M1 _ (HH5.out.below hv8g0) HWR1.out (by omega) (by omega)).mono ?_; rintro e8g1 w8g1 ⟨vt1, rfl, ⟨to1, tn1, tc1, rfl, htr1, _⟩, hb8g1⟩; have hv8g1 : Below wc.heap.size wc w8g1 := hv8g0.trans (hb8g1.mono (hv8g0).size); clear hb8g1; have lt1 : tn1 ≤ 302 := (by rw [← htr1.len]; have h9 := len_mul (nn s.hl i) M1; have h8 := HWR1.out.len; have h7 := HH5.out.len; omega); have HTR1 := hid htr1; clear htr1) | (go_at_call 35; refine (pwhole_any M1 _ (by omega)).mono ?_; rintro e8g0 w8g0 ⟨vw1, rfl, ⟨wo1, wn1, wc1, rfl, hwr1, _⟩, hb8g0⟩; have hv8g0 : Below wc.heap.size wc w8g0 := (Below.refl wc.heap.size wc).drew.trans (hb8g0.mono ((Below.refl wc.heap.size wc).drew).size); clear hb8g0; have lw1 : wn1 ≤ 2 := (by rw [← hwr1.len]; exact len_sml hM1b); have HWR1 := hid hwr1; clear hwr1))
      clear SK df45 dch5 dcb0 dcd df65 df05 dcp dcb1
      have XR_9 := hid (XR_7.out.keep hv8g4)
      have XU_9 := hid (XU_7.out.keep hv8g4)
      have XxB_9 := hid (XxB_7.out.keep hv8g4)
      have HB_9 : Hid (Below (w.heap.size) w w8g4) := HB_7.out.trans (hv8g4.mono (HB_7.out.size))
      clear XR_7 XU_7 XxB_7 HB_7
      have HX1 : Hid (Bx (w8g4.setCell ⟨PBx, 1, none⟩ (.string tl_)) PBx #[.string ta, .string tl_, .int .i64 (-1)] 35) := XxB_9.out.set1 _
      have HR1 : Hid (Bx (w8g4.setCell ⟨PBx, 1, none⟩ (.string tl_)) w.heap.size #[.string ⟨#[]⟩, .string ⟨#[]⟩, .int .i64 0] 35) := XR_9.out.other _ _ (by show PBx ≠ w.heap.size; have := HPX.out; omega)
      have HU1 : Hid (Bx (w8g4.setCell ⟨PBx, 1, none⟩ (.string tl_)) (w.heap.size + 1) #[.slice da d.pool.length dc, .int .i64 (ug d.us i).wt, .int .i64 (ug d.us i).cap] 56) := XU_9.out.other _ _ (by show PBx ≠ w.heap.size + 1; omega)
      have HB1 : Hid (Below w.heap.size w (w8g4.setCell ⟨PBx, 1, none⟩ (.string tl_))) := HB_9.out.setCell (by show w.heap.size ≤ PBx; have := HPX.out; omega) _
      clear xk1 xz1 xkl f45 ch5 hhb5 cb0 lbu cd hdb f65 bl5 f05 cp hppb cb1 hX1 hX1w HTR1 HTR1b HTR1c HTR2 HWR1 HWR2 HH5 HQ5
      obtain ⟨V5, hV5⟩ : ∃ V5, V5 = w8g4.setCell ⟨PBx, 1, none⟩ (.string tl_) := ⟨_, rfl⟩
      rw [← hV5] at HX1 HR1 HU1 HB1 ⊢
      clear hV5 XxB_9 XR_9 XU_9 HB_9
      have HLV : Hid (∀ z : Int, (Ending.returned (.agg #[.string ⟨(txt (d.ts i)).toArray⟩, .string tl_, .int .i64 z]) : Ending) = .returned (.agg #[.string ⟨(txt (d.ts i)).toArray⟩, .string ⟨(txt (d.lv i)).toArray⟩, .int .i64 z])) := fun z => by rw [HTL.out]
      obtain ⟨vt6, vg6, vh6, vs6, qo6, qn6, qc6, hbx6, hot6, hog6, hoh6, hos6, hoq6, hlt6_⟩ := (H.out.below HB1.out).box
      have bl6 := hbx6.lt
      have f66 : V5.cell? ⟨d.pb, 6, none⟩ = some (.slice qo6 qn6 qc6) := hbx6.cell 6 _ rfl
      have HQ6 := hid hoq6
      have lq6 : qn6 ≤ 300 := by rw [← hoq6.len]; exact HS.out.q
      clear hbx6 hot6 hog6 hoh6 hos6 hoq6 hlt6_
      have cu2 := HU1.out.cell 2 _ rfl
      have lu := HU1.out.lt
      obtain ⟨M, hM⟩ : ∃ M : Nat, (ug d.us i).cap = (M : Int) ∧ M = d.a.C i := ⟨_, d.C_eq HO.out hi, rfl⟩
      have cu2b : V5.cell? ⟨w.heap.size + 1, 2, none⟩ = some (.int .i64 (M : Int)) := by rw [← hM.1]; exact cu2
      have hM2 : M ≤ 10000 := by rw [hM.2]; have := d.C_le HO.out hi; omega
      have HMD := hid hM.2
      clear hM cu2
      go_upto_region 6 with fail
      have SK : Hid (∀ U, Below V5.heap.size V5 U → U.cell? ⟨w.heap.size + 1, 2, none⟩ = some (.int .i64 (M : Int)) ∧ U.cell? ⟨d.pb, 6, none⟩ = some (.slice qo6 qn6 qc6)) := fun U h => ⟨(h.cell (p := ⟨w.heap.size + 1, 2, none⟩) lu).trans cu2b, (h.cell (p := ⟨d.pb, 6, none⟩) bl6).trans f66⟩
      have dcu2b : V5.drew.cell? ⟨w.heap.size + 1, 2, none⟩ = some (.int .i64 (M : Int)) := ((Below.refl V5.heap.size V5).drew.cell (p := ⟨w.heap.size + 1, 2, none⟩) lu).trans cu2b
      have df66 : V5.drew.cell? ⟨d.pb, 6, none⟩ = some (.slice qo6 qn6 qc6) := ((Below.refl V5.heap.size V5).drew.cell (p := ⟨d.pb, 6, none⟩) bl6).trans f66
      go_region_held3 (fun w' => w'.cell? ⟨w.heap.size + 1, 2, none⟩ = some (.int .i64 (M : Int)) ∧ w'.cell? ⟨d.pb, 6, none⟩ = some (.slice qo6 qn6 qc6)) (first | exact SK.out _ (Below.refl _ _).drew | exact SK.out _ hv10g0 | exact SK.out _ hv10g1)
        (first | (go_at_call 37; refine (ptimes_any wo6 qo6 wn6 wc6 qn6 qc6 M s.q _ HWR6.out (HQ6.out.below hv10g0) (by omega) (by omega)).mono ?_; rintro e10g1 w10g1 ⟨vm6, rfl, ⟨mo, mn, mc, rfl, hmr, _⟩, hb10g1⟩; have hv10g1 : Below V5.heap.size V5 w10g1 := hv10g0.trans (hb10g1.mono (hv10g0).size); clear hb10g1; have lm6 : mn ≤ 302 := (by rw [← hmr.len]; have h9 := len_mul M s.q; have h8 := HWR6.out.len; have h7 := HQ6.out.len; omega); have HMR := hid hmr; clear hmr) | (go_at_call 35; refine (pwhole_any M _ (by omega)).mono ?_; rintro e10g0 w10g0 ⟨vw6, rfl, ⟨wo6, wn6, wc6, rfl, hwr6, _⟩, hb10g0⟩; have hv10g0 : Below V5.heap.size V5 w10g0 := (Below.refl V5.heap.size V5).drew.trans (hb10g0.mono ((Below.refl V5.heap.size V5).drew).size); clear hb10g0; have lw6 : wn6 ≤ 2 := (by rw [← hwr6.len]; exact len_sml hM2); have HWR6 := hid hwr6; clear hwr6))
      clear SK dcu2b df66
      have XR_11 := hid (HR1.out.keep hv10g1)
      have XU_11 := hid (HU1.out.keep hv10g1)
      have XxB_11 := hid (HX1.out.keep hv10g1)
      have HB_11 : Hid (Below (w.heap.size) w w10g1) := HB1.out.trans (hv10g1.mono (HB1.out.size))
      clear HR1 HU1 HX1 HB1
      clear cu2b lu f66 HWR6 HQ6 bl6
      obtain ⟨vt7, vg7, vh7, vs7, qo7, qn7, qc7, hbx7, hot7, hog7, hoh7, hos7, hoq7, hlt7_⟩ := (H.out.below HB_11.out).box
      have bl7 := hbx7.lt
      have f47 : w10g1.cell? ⟨d.pb, 4, none⟩ = some vh7 := hbx7.cell 4 _ rfl
      obtain ⟨hoo7, hc7, rfl⟩ := hoh7.shape
      rw [HS.out.hl] at hoh7 f47
      obtain ⟨hb7_, ha7, hk7, hcc7, rfl, hhb7, ch7, _, hrw7⟩ := hoh7.get (i := i) (by rw [HS.out.hl]; exact hi)
      rw [Nat.zero_add] at ch7
      have HH7 := hid hrw7
      have lh7 : hk7 ≤ 300 := by rw [← hrw7.len]; exact HS.out.hs i hi
      clear hbx7 hot7 hog7 hoh7 hos7 hoq7 hlt7_
      go_wp2_with fail
      refine (pcmp_any ha7 mo hk7 hcc7 mn mc (nn s.hl i) (M * s.q) _ HH7.out HMR.out (by omega) (by omega)).mono ?_
      rintro e7 w7 ⟨rfl, hb7⟩
      have XR_12 := hid (XR_11.out.keep hb7)
      have XU_12 := hid (XU_11.out.keep hb7)
      have XxB_12 := hid (XxB_11.out.keep hb7)
      have Rm_12 := hid (HMR.out.below hb7)
      have HB_12 : Hid (Below (w.heap.size) w w7) := HB_11.out.trans (hb7.mono (HB_11.out.size))
      clear XR_11 XU_11 XxB_11 HMR HB_11
      clear hb7 f47 ch7 hhb7 HH7 bl7
      by_cases hc : nn s.hl i = M * s.q
      · have HST : Hid (stopV d.fd (endS d.pool d.us) i = -1) := stopV_cap ((HE.out.cap HO.out hi).1 (by rw [hc, HMD.out]))
        have hcc : cmp3 ((nn s.hl i : Nat) : Int) ((M * s.q : Nat) : Int) = 0 := cmp3_zero.2 hc
        rw [hcc]
        clear hc hcc
        have x0 := XxB_12.out.cell 0 _ rfl
        have r0 := XR_12.out.cell 0 _ rfl
        have q0 := XR_12.out.frozen 0
        have x1 := XxB_12.out.cell 1 _ rfl
        have r1 := XR_12.out.cell 1 _ rfl
        have q1 := XR_12.out.frozen 1
        have x2 := XxB_12.out.cell 2 _ rfl
        have r2 := XR_12.out.cell 2 _ rfl
        have q2 := XR_12.out.frozen 2
        have xl := XxB_12.out.lt
        have rl := XR_12.out.lt
        have HRF := hid (XR_12.out.put3 (.string ta) (.string tl_) (.int .i64 (-1)))
        have HBF := hid (below_put3 HB_12.out (Nat.le_refl _) (.string ta) (.string tl_) (.int .i64 (-1)))
        unfold wput3 at HRF HBF
        go_wp2
        have y0 := HRF.out.cell 0 _ rfl
        have y1 := HRF.out.cell 1 _ rfl
        have y2 := HRF.out.cell 2 _ rfl
        refine bodyPost_ret (v := .agg #[.string ta, .string tl_, .int .i64 (-1)]) (by simp [results, Tryz.results22, go_sem, y0, y1, y2]) rfl ⟨?_, HBF.out⟩
        rw [HTA.out]; rw [HST.out]; exact HLV.out _
      · have HNC : Hid ((endS d.pool d.us).ts i ≠ (((ug d.us i).cap : Int) : Rat)) := fun h5 => hc (by rw [HMD.out]; exact (HE.out.cap HO.out hi).2 h5)
        have hcc : (cmp3 ((nn s.hl i : Nat) : Int) ((M * s.q : Nat) : Int) == 0) = false := by rw [beq_eq_false_iff_ne]; exact fun h5 => hc (cmp3_zero.1 h5)
        generalize cmp3 ((nn s.hl i : Nat) : Int) ((M * s.q : Nat) : Int) = cc at hcc ⊢
        clear hc
        go_wp2
        go_loopg [10] d.pool.length (fun gg ix wr => ∃ r : Nat, gg = d.pool.length - r ∧ r ≤ d.pool.length ∧ ix = .int .i64 r ∧ Hid (∀ k, k < r → ¬ HoldsB d.fd (endS d.pool d.us) k i) ∧ Hid (Bx wr w.heap.size #[.string ⟨#[]⟩, .string ⟨#[]⟩, .int .i64 0] 35) ∧ Hid (Bx wr PBx #[.string ta, .string tl_, .int .i64 (-1)] 35) ∧ Hid (Below w.heap.size w wr))
        case atStart => exact ⟨0, rfl, Nat.zero_le _, rfl, fun k hk => by omega, XR_12.out, XxB_12.out, HB_12.out⟩
        case round =>
          clear XR_12 XxB_12 HB_12 XU_12
          obtain ⟨r, hgr, hr, rfl, hz, XR, XX, hB⟩ := hrel
          obtain ⟨vt8, vg8, vh8, vs8, qo8, qn8, qc8, hbx8, hot8, hog8, hoh8, hos8, hoq8, hlt8_⟩ := (H.out.below hB.out).box
          have bl8 := hbx8.lt
          have g08 : wr.cell? ⟨d.pb, 0, none⟩ = some (.slice d.po d.pool.length d.pc) := hbx8.cell 0 _ rfl
          clear hbx8 hot8 hog8 hoh8 hos8 hoq8 hlt8_
          by_cases hrt : r < d.pool.length
          · have hrn : (r : Int) < (d.pool.length : Int) := by omega
            go_wp2_with fail
            refine (pholds_any d s r i _ (H.out.below hB.out) HO.out HS.out HE.out (HLE.out r hrt) hrt hi).mono ?_
            rintro e9 w9 ⟨⟨b, rfl, hbi⟩, hb9⟩
            have HBI := hid hbi
            clear hbi
            have XR_61 := hid (XR.out.keep hb9)
            have XxB_61 := hid (XX.out.keep hb9)
            have HB_61 : Hid (Below (w.heap.size) w w9) := hB.out.trans (hb9.mono (hB.out.size))
            clear XR XX hB
            clear hb9 g08 bl8
            cases b with
            | false =>
              have HZ2 : Hid (∀ k, k < r + 1 → ¬ HoldsB d.fd (endS d.pool d.us) k i) := fun k hk h5 => by
                by_cases e : k = r
                · subst e; have := HBI.out.2 (holdsN_iff.2 h5); cases this
                · exact hz.out k (by omega) h5
              go_wp2
              go_roundg (d.pool.length - (r + 1))
              case measure => omega
              case rel => exact ⟨r + 1, rfl, by omega, by go_num, HZ2.out, XR_61.out, XxB_61.out, HB_61.out⟩
            | true =>
              have HST : Hid (stopV d.fd (endS d.pool d.us) i = (r : Int)) := stopV_at HNC.out hrt hz.out (holdsN_iff.1 (HBI.out.1 rfl))
              have hX9 := XxB_61
              have hR9 := XR_61
              have hB9 := HB_61
              have x2a := hX9.out.cell 2 _ rfl
              have z2a := hX9.out.frozen 2
              have xla := hX9.out.lt
              have HX10 : Hid (Bx (w9.setCell ⟨PBx, 2, none⟩ (.int .i64 r)) PBx #[.string ta, .string tl_, .int .i64 r] 35) := hX9.out.set2 _
              have HR10 : Hid (Bx (w9.setCell ⟨PBx, 2, none⟩ (.int .i64 r)) w.heap.size #[.string ⟨#[]⟩, .string ⟨#[]⟩, .int .i64 0] 35) := hR9.out.other _ _ (by show PBx ≠ w.heap.size; have := HPX.out; omega)
              have HB10 : Hid (Below w.heap.size w (w9.setCell ⟨PBx, 2, none⟩ (.int .i64 r))) := hB9.out.setCell (by show w.heap.size ≤ PBx; have := HPX.out; omega) _
              clear hX9 hR9 hB9
              go_upto_region 16 with fail
              obtain ⟨V9, hV9⟩ : ∃ V9, V9 = w9.setCell ⟨PBx, 2, none⟩ (.int .i64 r) := ⟨_, rfl⟩
              rw [← hV9] at HX10 HR10 HB10 ⊢
              clear hV9 x2a z2a xla XxB_61 XR_61 HB_61
              have x0 := HX10.out.cell 0 _ rfl
              have r0 := HR10.out.cell 0 _ rfl
              have q0 := HR10.out.frozen 0
              have x1 := HX10.out.cell 1 _ rfl
              have r1 := HR10.out.cell 1 _ rfl
              have q1 := HR10.out.frozen 1
              have x2 := HX10.out.cell 2 _ rfl
              have r2 := HR10.out.cell 2 _ rfl
              have q2 := HR10.out.frozen 2
              have xl := HX10.out.lt
              have rl := HR10.out.lt
              have HRF := hid (HR10.out.put3 (.string ta) (.string tl_) (.int .i64 ((r : Int))))
              have HBF := hid (below_put3 HB10.out (Nat.le_refl _) (.string ta) (.string tl_) (.int .i64 ((r : Int))))
              unfold wput3 at HRF HBF
              go_wp2
              have y0 := HRF.out.cell 0 _ rfl
              have y1 := HRF.out.cell 1 _ rfl
              have y2 := HRF.out.cell 2 _ rfl
              refine bodyPost_ret (v := .agg #[.string ta, .string tl_, .int .i64 ((r : Int))]) (by simp [results, Tryz.results22, go_sem, y0, y1, y2]) rfl ⟨?_, HBF.out⟩
              rw [HTA.out]; rw [HST.out]; exact HLV.out _
          · obtain rfl : r = d.pool.length := by omega
            exfalso
            obtain ⟨k, hk, h5⟩ := stop_some d.fd_of HO.out.good HO.out.pool hi HNC.out
            exact hz.out k hk h5

end Go.Proofs.YtigokanoflkinaaGreatDoor
