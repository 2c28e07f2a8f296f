/- The rise of the reference: share. (Laid by mkrisek.py.) -/
import Derived.Test.YtigokanoflkinaaGreatDoorRRisJ
import Derived.Test.YtigokanoflkinaaGreatDoorRRisH
import Derived.Test.YtigokanoflkinaaGreatDoorRefTxt
import Derived.Deep.DeepCutAuto
namespace Go.Proofs.YtigokanoflkinaaGreatDoor
set_option linter.unusedSimpArgs false
set_option linter.unusedVariables false
open Go.RowKit Por

theorem ptext_as (m : Bool) (ao bo : Option Addr) (n capa k capb : Nat) (p q : Nat) (z : Rat) (t : ByteArray) (w : World) (h1 : Row w ao n capa (limbs p)) (h2 : Row w bo k capb (limbs q)) (b1 : n ≤ 8000) (b2 : k ≤ 8000) (hq : q ≠ 0) (hz : mkRat (sg m p) q = z) (ht : t = ⟨(txt z).toArray⟩) :
    Calls Tryz.prog 40 #[.agg #[.bool m, .slice ao n capa, .slice bo k capb]] w fun e w' => e = .returned (.string t) ∧ Below w.heap.size w w' := by
  have h9 := ptext_any m ao bo n capa k capb p q w h1 h2 b1 b2 hq
  rw [hz, ← ht] at h9
  exact h9
theorem RisM.haveLt {w w' : World} {d : RD} {s : RV} (h : RisM w d s) (hb : Below w.heap.size w w') {b n c : Nat} (e : w'.cell? ⟨d.pb, 4, none⟩ = some (.slice (some ⟨b, 0, none⟩) n c)) : b < w.heap.size := by
  obtain ⟨vt, vg, vh, vs, qo, qn, qc, hbx, _, _, h4, _⟩ := h.box
  have e4 : w.cell? ⟨d.pb, 4, none⟩ = some vh := hbx.cell 4 _ rfl
  have e5 := (hb.cell (p := ⟨d.pb, 4, none⟩) hbx.lt).trans e4
  rw [e] at e5
  cases e5
  exact NLs.lt h4 b n c rfl
theorem nat_prodK {a b A B : Nat} (ha : a ≤ A) (hb : b ≤ B) : ∃ X : Nat, (a : Int) * (b : Int) = (X : Int) ∧ X ≤ A * B ∧ X = a * b := ⟨a * b, by rw [Int.natCast_mul], Nat.mul_le_mul ha hb, rfl⟩

set_option maxHeartbeats 20000000 in
set_option maxRecDepth 20000 in
theorem pshare_any (d : RD) (s : RV) (i : Nat) (w : World) (h : RisM w d s) (ho : d.Ok) (hs : s.Ok d) (he : REnd d s) (hle : ∀ r, r < d.pool.length → ∀ i, i < d.us.length → bn s.sl i = false → d.a.D i r * nn s.hl i ≤ leftT d.a s.R r i) (hi : i < d.us.length) :
    Calls Tryz.prog 22 #[.pointer (some ⟨d.pb, 0, none⟩), .int .i64 i] w fun e w' => e = .returned (.agg #[.string ⟨(txt (d.ts i)).toArray⟩, .string ⟨(txt (d.lv i)).toArray⟩, .int .i64 (stopV d.fd (endS d.pool d.us) i)]) ∧ Below w.heap.size w w' := by
  have hk4 := ho.k4
  have hk1 := ho.k1
  have hn6 := ho.n6
  have H := hid h
  have HO := hid ho
  have HS := hid hs
  have HE := hid he
  have HLE := hid hle
  clear h ho hs he hle
  have hin : (i : Int) < (d.us.length : Int) := by omega
  obtain ⟨ta, hta⟩ : ∃ ta : ByteArray, ta = ⟨(txt (d.ts i)).toArray⟩ := ⟨_, rfl⟩
  have HTA := hid hta
  clear hta
  have HB_0 := hid (Below.refl w.heap.size w)
  go_enter Tryz.func22, Tryz.ntmps22
  obtain ⟨vt1, vg1, vh1, vs1, qo1, qn1, qc1, hbx1, hot1, hog1, hoh1, hos1, hoq1, hlt1_⟩ := (H.out.below HB_0.out).box
  have bl1 := hbx1.lt
  have e1 : w.cell? ⟨d.pb, 1, none⟩ = some (.slice d.ao d.us.length d.cap) := hbx1.cell 1 _ rfl
  clear hbx1 hot1 hog1 hoh1 hos1 hoq1 hlt1_
  obtain ⟨ub, uo, da, dn, dc, hao, hbl, a0, a1, a2, hd⟩ := H.out.users.get hi
  rw [hao] at e1
  clear hao
  have hdl := hd.len
  rw [ints_len, HO.out.good.len hi] at hdl
  subst hdl
  have HD := hid hd
  clear hd
  go_upto_region 2 with fail
  have HBV : Hid (Below w.heap.size w ((w.alloc (.cells #[.string ⟨#[]⟩, .string ⟨#[]⟩, .int .i64 0] 35)).alloc (.cells #[.slice da d.pool.length dc, .int .i64 (ug d.us i).wt, .int .i64 (ug d.us i).cap] 56))) := (HB_0.out.alloc (Nat.le_refl _) _).alloc (Nat.le_of_lt (by rw [World.size_alloc]; omega)) _
  have HRB : Hid (Bx ((w.alloc (.cells #[.string ⟨#[]⟩, .string ⟨#[]⟩, .int .i64 0] 35)).alloc (.cells #[.slice da d.pool.length dc, .int .i64 (ug d.us i).wt, .int .i64 (ug d.us i).cap] 56)) w.heap.size #[.string ⟨#[]⟩, .string ⟨#[]⟩, .int .i64 0] 35) := bx_past (bx_new w _ _) _
  have HUB : Hid (Bx ((w.alloc (.cells #[.string ⟨#[]⟩, .string ⟨#[]⟩, .int .i64 0] 35)).alloc (.cells #[.slice da d.pool.length dc, .int .i64 (ug d.us i).wt, .int .i64 (ug d.us i).cap] 56)) (w.heap.size + 1) #[.slice da d.pool.length dc, .int .i64 (ug d.us i).wt, .int .i64 (ug d.us i).cap] 56) := by have h9 := bx_new (w.alloc (.cells #[.string ⟨#[]⟩, .string ⟨#[]⟩, .int .i64 0] 35)) #[.slice da d.pool.length dc, .int .i64 (ug d.us i).wt, .int .i64 (ug d.us i).cap] 56; rw [World.size_alloc] at h9; exact h9
  have HVS : Hid (((w.alloc (.cells #[.string ⟨#[]⟩, .string ⟨#[]⟩, .int .i64 0] 35)).alloc (.cells #[.slice da d.pool.length dc, .int .i64 (ug d.us i).wt, .int .i64 (ug d.us i).cap] 56)).heap.size = w.heap.size + 2) := by show _ = _; rw [World.size_alloc, World.size_alloc]
  obtain ⟨V0, hV0⟩ : ∃ V0, V0 = (w.alloc (.cells #[.string ⟨#[]⟩, .string ⟨#[]⟩, .int .i64 0] 35)).alloc (.cells #[.slice da d.pool.length dc, .int .i64 (ug d.us i).wt, .int .i64 (ug d.us i).cap] 56) := ⟨_, rfl⟩
  rw [← hV0] at HBV HRB HUB HVS ⊢
  have HPL := hid bl1
  clear hV0 HB_0 e1 hbl a0 a1 a2 bl1
  obtain ⟨vt2, vg2, vh2, vs2, qo2, qn2, qc2, hbx2, hot2, hog2, hoh2, hos2, hoq2, hlt2_⟩ := (H.out.below HBV.out).box
  have bl2 := hbx2.lt
  have f42 : V0.cell? ⟨d.pb, 4, none⟩ = some vh2 := hbx2.cell 4 _ rfl
  obtain ⟨hoo2, hc2, rfl⟩ := hoh2.shape
  rw [HS.out.hl] at hoh2 f42
  obtain ⟨hb2_, ha2, hk2, hcc2, rfl, hhb2, ch2, _, hrw2⟩ := hoh2.get (i := i) (by rw [HS.out.hl]; exact hi)
  rw [Nat.zero_add] at ch2
  have HH2 := hid hrw2
  have lh2 : hk2 ≤ 300 := by rw [← hrw2.len]; exact HS.out.hs i hi
  have f62 : V0.cell? ⟨d.pb, 6, none⟩ = some (.slice qo2 qn2 qc2) := hbx2.cell 6 _ rfl
  have HQ2 := hid hoq2
  have lq2 : qn2 ≤ 300 := by rw [← hoq2.len]; exact HS.out.q
  clear hbx2 hot2 hog2 hoh2 hos2 hoq2 hlt2_
  have SK : Hid (∀ U, Below V0.heap.size V0 U → U.cell? ⟨d.pb, 4, none⟩ = some (.slice (some ⟨hb2_, 0, none⟩) d.us.length hc2) ∧ U.cell? ⟨hb2_, i, none⟩ = some (.slice ha2 hk2 hcc2) ∧ U.cell? ⟨d.pb, 6, none⟩ = some (.slice qo2 qn2 qc2)) := fun U h => ⟨(h.cell (p := ⟨d.pb, 4, none⟩) bl2).trans f42, (h.cell (p := ⟨hb2_, i, none⟩) hhb2).trans ch2, (h.cell (p := ⟨d.pb, 6, none⟩) bl2).trans f62⟩
  have KC : Hid (∀ U, Below V0.heap.size V0 U → Calls Tryz.prog 40 #[.agg #[.bool false, .slice ha2 hk2 hcc2, .slice qo2 qn2 qc2]] U (fun e w' => e = .returned (.string ta) ∧ Below V0.heap.size V0 w' ∧ Below U.heap.size U w')) := fun U hU => (ptext_as false ha2 qo2 hk2 hcc2 qn2 qc2 (nn s.hl i) s.q (d.ts i) ta U (HH2.out.below hU) (HQ2.out.below hU) (by omega) (by omega) (Nat.pos_iff_ne_zero.1 HE.out.q0) (HE.out.text hi) HTA.out).mono (fun e w' ⟨h1, h3⟩ => ⟨h1, hU.trans (h3.mono hU.size), h3⟩)
  go_cut [6] (fun pp wx => ∃ (PB : Nat), pp = .pointer (some ⟨PB, 0, none⟩) ∧ Hid (Bx wx w.heap.size #[.string ⟨#[]⟩, .string ⟨#[]⟩, .int .i64 0] 35) ∧ Hid (Bx wx (w.heap.size + 1) #[.slice da d.pool.length dc, .int .i64 (ug d.us i).wt, .int .i64 (ug d.us i).cap] 56) ∧ Hid (Bx wx PB #[.string ta, .string ⟨#[48]⟩, .int .i64 (-1)] 35) ∧ Hid (Below w.heap.size w wx) ∧ V0.heap.size ≤ PB)
  case first =>
    have df42 : V0.drew.cell? ⟨d.pb, 4, none⟩ = some (.slice (some ⟨hb2_, 0, none⟩) d.us.length hc2) := ((Below.refl V0.heap.size V0).drew.cell (p := ⟨d.pb, 4, none⟩) bl2).trans f42
    have dch2 : V0.drew.cell? ⟨hb2_, i, none⟩ = some (.slice ha2 hk2 hcc2) := ((Below.refl V0.heap.size V0).drew.cell (p := ⟨hb2_, i, none⟩) hhb2).trans ch2
    have df62 : V0.drew.cell? ⟨d.pb, 6, none⟩ = some (.slice qo2 qn2 qc2) := ((Below.refl V0.heap.size V0).drew.cell (p := ⟨d.pb, 6, none⟩) bl2).trans f62
    go_region_held3 (fun w' => w'.cell? ⟨d.pb, 4, none⟩ = some (.slice (some ⟨hb2_, 0, none⟩) d.us.length hc2) ∧ w'.cell? ⟨hb2_, i, none⟩ = some (.slice ha2 hk2 hcc2) ∧ w'.cell? ⟨d.pb, 6, none⟩ = some (.slice qo2 qn2 qc2)) (first | exact SK.out _ (Below.refl _ _).drew | exact SK.out _ ((Below.refl _ _).alloc (Nat.le_refl _) _).drew | exact SK.out _ hb7 | exact SK.out _ (hb7.alloc hb7.size _) | exact SK.out _ (below_put3 hb7 (Nat.le_refl _) _ _ _))
      (first | (go_at_call 40; refine (KC.out _ ?hU).mono ?_; (case hU => first | exact (Below.refl _ _).drew | exact ((Below.refl _ _).alloc (Nat.le_refl _) _).drew); rintro e7 w7 ⟨rfl, hb7, hu7⟩; try (have XP7 := (bx_new V0 #[.string ⟨#[]⟩, .string ⟨#[]⟩, .int .i64 0] 35).drew.keep hu7; have xp0 := XP7.cell 0 _ rfl; have xp1 := XP7.cell 1 _ rfl; have xp2 := XP7.cell 2 _ rfl; have xf0 := XP7.frozen 0; have xf1 := XP7.frozen 1; have xf2 := XP7.frozen 2; have xl := XP7.lt; clear XP7)))
    all_goals (go_wp2_with fail; go_meet)
    all_goals (first | exact ⟨w7.heap.size, rfl, bx_past (HRB.out.keep hb7) _, bx_past (HUB.out.keep hb7) _, bx_new w7 _ _, (HBV.out.trans (hb7.mono HBV.out.size)).alloc (Nat.le_trans HBV.out.size hb7.size) _, hb7.size⟩ | exact ⟨V0.heap.size, rfl, HRB.out.keep (below_put3 hb7 (Nat.le_refl _) _ _ _), HUB.out.keep (below_put3 hb7 (Nat.le_refl _) _ _ _), Bx.put3 ((bx_new V0 #[.string ⟨#[]⟩, .string ⟨#[]⟩, .int .i64 0] 35).drew.keep hu7) _ _ _, below_put3 (HBV.out.trans (hb7.mono HBV.out.size)) HBV.out.size _ _ _, Nat.le_refl _⟩)
  case rest =>
    obtain ⟨PBx, rfl, XR_7, XU_7, XxB_7, HB_7, lePBx⟩ := hcut
    clear SK KC HRB HUB HBV
    clear f42 ch2 hhb2 f62 HH2 HQ2 bl2
    obtain ⟨vt3, vg3, vh3, vs3, qo3, qn3, qc3, hbx3, hot3, hog3, hoh3, hos3, hoq3, hlt3_⟩ := (H.out.below HB_7.out).box
    have bl3 := hbx3.lt
    have e2a : wc.cell? ⟨d.pb, 2, none⟩ = some vt3 := hbx3.cell 2 _ rfl
    obtain ⟨tto, ttc, rfl, htra, _⟩ := hot3.row
    have htr : Row wc tto d.us.length ttc s.tl := by have h9 := htra; rw [HS.out.tl] at h9; exact h9
    have e2 : wc.cell? ⟨d.pb, 2, none⟩ = some (.slice tto d.us.length ttc) := by have h9 := e2a; rw [HS.out.tl] at h9; exact h9
    clear e2a htra
    obtain ⟨tb, tof, htt, htb⟩ := htr.head (by omega)
    rw [htt] at e2
    have ct := htr.cell tb tof htt i hi
    clear htr htt hbx3 hot3 hog3 hoh3 hos3 hoq3 hlt3_
    rcases HE.out.tops.get HO.out hi with ⟨htv, _⟩ | ⟨hti, hte, hT1⟩
    · rw [htv] at ct
      have HPX : Hid (w.heap.size < PBx) := by show w.heap.size < PBx; have h9 := HVS.out; omega
      have HL0 := hid (HE.out.level0 HO.out hi (by rw [htv]; omega))
      clear htv
      have HLT : Hid ((⟨#[48]⟩ : ByteArray) = ⟨(txt (d.lv i)).toArray⟩) := by rw [Hid, HL0.out, txt_zero]
      have HLV : Hid (∀ z : Int, (Ending.returned (.agg #[.string ⟨(txt (d.ts i)).toArray⟩, .string ⟨#[48]⟩, .int .i64 z]) : Ending) = .returned (.agg #[.string ⟨(txt (d.ts i)).toArray⟩, .string ⟨(txt (d.lv i)).toArray⟩, .int .i64 z])) := fun z => by rw [HLT.out]
      obtain ⟨vt6, vg6, vh6, vs6, qo6, qn6, qc6, hbx6, hot6, hog6, hoh6, hos6, hoq6, hlt6_⟩ := (H.out.below HB_7.out).box
      have bl6 := hbx6.lt
      have f66 : wc.cell? ⟨d.pb, 6, none⟩ = some (.slice qo6 qn6 qc6) := hbx6.cell 6 _ rfl
      have HQ6 := hid hoq6
      have lq6 : qn6 ≤ 300 := by rw [← hoq6.len]; exact HS.out.q
      clear hbx6 hot6 hog6 hoh6 hos6 hoq6 hlt6_
      have cu2 := XU_7.out.cell 2 _ rfl
      have lu := XU_7.out.lt
      obtain ⟨M, hM⟩ : ∃ M : Nat, (ug d.us i).cap = (M : Int) ∧ M = d.a.C i := ⟨_, d.C_eq HO.out hi, rfl⟩
      have cu2b : wc.cell? ⟨w.heap.size + 1, 2, none⟩ = some (.int .i64 (M : Int)) := by rw [← hM.1]; exact cu2
      have hM2 : M ≤ 10000 := by rw [hM.2]; have := d.C_le HO.out hi; omega
      have HMD := hid hM.2
      clear hM cu2
      go_upto_region 6 with fail
      have SK : Hid (∀ U, Below wc.heap.size wc U → U.cell? ⟨w.heap.size + 1, 2, none⟩ = some (.int .i64 (M : Int)) ∧ U.cell? ⟨d.pb, 6, none⟩ = some (.slice qo6 qn6 qc6)) := fun U h => ⟨(h.cell (p := ⟨w.heap.size + 1, 2, none⟩) lu).trans cu2b, (h.cell (p := ⟨d.pb, 6, none⟩) bl6).trans f66⟩
      have dcu2b : wc.drew.cell? ⟨w.heap.size + 1, 2, none⟩ = some (.int .i64 (M : Int)) := ((Below.refl wc.heap.size wc).drew.cell (p := ⟨w.heap.size + 1, 2, none⟩) lu).trans cu2b
      have df66 : wc.drew.cell? ⟨d.pb, 6, none⟩ = some (.slice qo6 qn6 qc6) := ((Below.refl wc.heap.size wc).drew.cell (p := ⟨d.pb, 6, none⟩) bl6).trans f66
      go_region_held3 (fun w' => w'.cell? ⟨w.heap.size + 1, 2, none⟩ = some (.int .i64 (M : Int)) ∧ w'.cell? ⟨d.pb, 6, none⟩ = some (.slice qo6 qn6 qc6)) (first | exact SK.out _ (Below.refl _ _).drew | exact SK.out _ hv8g0 | exact SK.out _ hv8g1)
        (first | (go_at_call 37; refine (ptimes_any wo6 qo6 wn6 wc6 qn6 qc6 M s.q _ HWR6.out (HQ6.out.below hv8g0) (by omega) (by omega)).mono ?_; rintro e8g1 w8g1 ⟨vm6, rfl, ⟨mo, mn, mc, rfl, hmr, _⟩, hb8g1⟩; have hv8g1 : Below wc.heap.size wc w8g1 := hv8g0.trans (hb8g1.mono (hv8g0).size); clear hb8g1; have lm6 : mn ≤ 302 := (by rw [← hmr.len]; have h9 := len_mul M s.q; have h8 := HWR6.out.len; have h7 := HQ6.out.len; omega); have HMR := hid hmr; clear hmr) | (go_at_call 35; refine (pwhole_any M _ (by omega)).mono ?_; rintro e8g0 w8g0 ⟨vw6, rfl, ⟨wo6, wn6, wc6, rfl, hwr6, _⟩, hb8g0⟩; have hv8g0 : Below wc.heap.size wc w8g0 := (Below.refl wc.heap.size wc).drew.trans (hb8g0.mono ((Below.refl wc.heap.size wc).drew).size); clear hb8g0; have lw6 : wn6 ≤ 2 := (by rw [← hwr6.len]; exact len_sml hM2); have HWR6 := hid hwr6; clear hwr6))
      clear SK dcu2b df66
      have XR_9 := hid (XR_7.out.keep hv8g1)
      have XU_9 := hid (XU_7.out.keep hv8g1)
      have XxB_9 := hid (XxB_7.out.keep hv8g1)
      have HB_9 : Hid (Below (w.heap.size) w w8g1) := HB_7.out.trans (hv8g1.mono (HB_7.out.size))
      clear XR_7 XU_7 XxB_7 HB_7
      clear cu2b lu f66 HWR6 HQ6 bl6
      obtain ⟨vt7, vg7, vh7, vs7, qo7, qn7, qc7, hbx7, hot7, hog7, hoh7, hos7, hoq7, hlt7_⟩ := (H.out.below HB_9.out).box
      have bl7 := hbx7.lt
      have f47 : w8g1.cell? ⟨d.pb, 4, none⟩ = some vh7 := hbx7.cell 4 _ rfl
      obtain ⟨hoo7, hc7, rfl⟩ := hoh7.shape
      rw [HS.out.hl] at hoh7 f47
      obtain ⟨hb7_, ha7, hk7, hcc7, rfl, hhb7, ch7, _, hrw7⟩ := hoh7.get (i := i) (by rw [HS.out.hl]; exact hi)
      rw [Nat.zero_add] at ch7
      have HH7 := hid hrw7
      have lh7 : hk7 ≤ 300 := by rw [← hrw7.len]; exact HS.out.hs i hi
      clear hbx7 hot7 hog7 hoh7 hos7 hoq7 hlt7_
      go_wp2_with fail
      refine (pcmp_any ha7 mo hk7 hcc7 mn mc (nn s.hl i) (M * s.q) _ HH7.out HMR.out (by omega) (by omega)).mono ?_
      rintro e7 w7 ⟨rfl, hb7⟩
      have XR_10 := hid (XR_9.out.keep hb7)
      have XU_10 := hid (XU_9.out.keep hb7)
      have XxB_10 := hid (XxB_9.out.keep hb7)
      have Rm_10 := hid (HMR.out.below hb7)
      have HB_10 : Hid (Below (w.heap.size) w w7) := HB_9.out.trans (hb7.mono (HB_9.out.size))
      clear XR_9 XU_9 XxB_9 HMR HB_9
      clear hb7 f47 ch7 hhb7 HH7 bl7
      by_cases hc : nn s.hl i = M * s.q
      · have HST : Hid (stopV d.fd (endS d.pool d.us) i = -1) := stopV_cap ((HE.out.cap HO.out hi).1 (by rw [hc, HMD.out]))
        have hcc : cmp3 ((nn s.hl i : Nat) : Int) ((M * s.q : Nat) : Int) = 0 := cmp3_zero.2 hc
        rw [hcc]
        clear hc hcc
        have x0 := XxB_10.out.cell 0 _ rfl
        have r0 := XR_10.out.cell 0 _ rfl
        have q0 := XR_10.out.frozen 0
        have x1 := XxB_10.out.cell 1 _ rfl
        have r1 := XR_10.out.cell 1 _ rfl
        have q1 := XR_10.out.frozen 1
        have x2 := XxB_10.out.cell 2 _ rfl
        have r2 := XR_10.out.cell 2 _ rfl
        have q2 := XR_10.out.frozen 2
        have xl := XxB_10.out.lt
        have rl := XR_10.out.lt
        have HRF := hid (XR_10.out.put3 (.string ta) (.string ⟨#[48]⟩) (.int .i64 (-1)))
        have HBF := hid (below_put3 HB_10.out (Nat.le_refl _) (.string ta) (.string ⟨#[48]⟩) (.int .i64 (-1)))
        unfold wput3 at HRF HBF
        go_wp2
        have y0 := HRF.out.cell 0 _ rfl
        have y1 := HRF.out.cell 1 _ rfl
        have y2 := HRF.out.cell 2 _ rfl
        refine bodyPost_ret (v := .agg #[.string ta, .string ⟨#[48]⟩, .int .i64 (-1)]) (by simp [results, Tryz.results22, go_sem, y0, y1, y2]) rfl ⟨?_, HBF.out⟩
        rw [HTA.out]; rw [HST.out]; exact HLV.out _
      · have HNC : Hid ((endS d.pool d.us).ts i ≠ (((ug d.us i).cap : Int) : Rat)) := fun h5 => hc (by rw [HMD.out]; exact (HE.out.cap HO.out hi).2 h5)
        have hcc : (cmp3 ((nn s.hl i : Nat) : Int) ((M * s.q : Nat) : Int) == 0) = false := by rw [beq_eq_false_iff_ne]; exact fun h5 => hc (cmp3_zero.1 h5)
        generalize cmp3 ((nn s.hl i : Nat) : Int) ((M * s.q : Nat) : Int) = cc at hcc ⊢
        clear hc
        go_wp2
        go_loopg [10] d.pool.length (fun gg ix wr => ∃ r : Nat, gg = d.pool.length - r ∧ r ≤ d.pool.length ∧ ix = .int .i64 r ∧ Hid (∀ k, k < r → ¬ HoldsB d.fd (endS d.pool d.us) k i) ∧ Hid (Bx wr w.heap.size #[.string ⟨#[]⟩, .string ⟨#[]⟩, .int .i64 0] 35) ∧ Hid (Bx wr PBx #[.string ta, .string ⟨#[48]⟩, .int .i64 (-1)] 35) ∧ Hid (Below w.heap.size w wr))
        case atStart => exact ⟨0, rfl, Nat.zero_le _, rfl, fun k hk => by omega, XR_10.out, XxB_10.out, HB_10.out⟩
        case round =>
          clear XR_10 XxB_10 HB_10 XU_10
          obtain ⟨r, hgr, hr, rfl, hz, XR, XX, hB⟩ := hrel
          obtain ⟨vt8, vg8, vh8, vs8, qo8, qn8, qc8, hbx8, hot8, hog8, hoh8, hos8, hoq8, hlt8_⟩ := (H.out.below hB.out).box
          have bl8 := hbx8.lt
          have g08 : wr.cell? ⟨d.pb, 0, none⟩ = some (.slice d.po d.pool.length d.pc) := hbx8.cell 0 _ rfl
          clear hbx8 hot8 hog8 hoh8 hos8 hoq8 hlt8_
          by_cases hrt : r < d.pool.length
          · have hrn : (r : Int) < (d.pool.length : Int) := by omega
            go_wp2_with fail
            refine (pholds_any d s r i _ (H.out.below hB.out) HO.out HS.out HE.out (HLE.out r hrt) hrt hi).mono ?_
            rintro e9 w9 ⟨⟨b, rfl, hbi⟩, hb9⟩
            have HBI := hid hbi
            clear hbi
            have XR_61 := hid (XR.out.keep hb9)
            have XxB_61 := hid (XX.out.keep hb9)
            have HB_61 : Hid (Below (w.heap.size) w w9) := hB.out.trans (hb9.mono (hB.out.size))
            clear XR XX hB
            clear hb9 g08 bl8
            cases b with
            | false =>
              have HZ2 : Hid (∀ k, k < r + 1 → ¬ HoldsB d.fd (endS d.pool d.us) k i) := fun k hk h5 => by
                by_cases e : k = r
                · subst e; have := HBI.out.2 (holdsN_iff.2 h5); cases this
                · exact hz.out k (by omega) h5
              go_wp2
              go_roundg (d.pool.length - (r + 1))
              case measure => omega
              case rel => exact ⟨r + 1, rfl, by omega, by go_num, HZ2.out, XR_61.out, XxB_61.out, HB_61.out⟩
            | true =>
              have HST : Hid (stopV d.fd (endS d.pool d.us) i = (r : Int)) := stopV_at HNC.out hrt hz.out (holdsN_iff.1 (HBI.out.1 rfl))
              have hX9 := XxB_61
              have hR9 := XR_61
              have hB9 := HB_61
              have x2a := hX9.out.cell 2 _ rfl
              have z2a := hX9.out.frozen 2
              have xla := hX9.out.lt
              have HX10 : Hid (Bx (w9.setCell ⟨PBx, 2, none⟩ (.int .i64 r)) PBx #[.string ta, .string ⟨#[48]⟩, .int .i64 r] 35) := hX9.out.set2 _
              have HR10 : Hid (Bx (w9.setCell ⟨PBx, 2, none⟩ (.int .i64 r)) w.heap.size #[.string ⟨#[]⟩, .string ⟨#[]⟩, .int .i64 0] 35) := hR9.out.other _ _ (by show PBx ≠ w.heap.size; have := HPX.out; omega)
              have HB10 : Hid (Below w.heap.size w (w9.setCell ⟨PBx, 2, none⟩ (.int .i64 r))) := hB9.out.setCell (by show w.heap.size ≤ PBx; have := HPX.out; omega) _
              clear hX9 hR9 hB9
              go_upto_region 16 with fail
              obtain ⟨V9, hV9⟩ : ∃ V9, V9 = w9.setCell ⟨PBx, 2, none⟩ (.int .i64 r) := ⟨_, rfl⟩
              rw [← hV9] at HX10 HR10 HB10 ⊢
              clear hV9 x2a z2a xla XxB_61 XR_61 HB_61
              have x0 := HX10.out.cell 0 _ rfl
              have r0 := HR10.out.cell 0 _ rfl
              have q0 := HR10.out.frozen 0
              have x1 := HX10.out.cell 1 _ rfl
              have r1 := HR10.out.cell 1 _ rfl
              have q1 := HR10.out.frozen 1
              have x2 := HX10.out.cell 2 _ rfl
              have r2 := HR10.out.cell 2 _ rfl
              have q2 := HR10.out.frozen 2
              have xl := HX10.out.lt
              have rl := HR10.out.lt
              have HRF := hid (HR10.out.put3 (.string ta) (.string ⟨#[48]⟩) (.int .i64 ((r : Int))))
              have HBF := hid (below_put3 HB10.out (Nat.le_refl _) (.string ta) (.string ⟨#[48]⟩) (.int .i64 ((r : Int))))
              unfold wput3 at HRF HBF
              go_wp2
              have y0 := HRF.out.cell 0 _ rfl
              have y1 := HRF.out.cell 1 _ rfl
              have y2 := HRF.out.cell 2 _ rfl
              refine bodyPost_ret (v := .agg #[.string ta, .string ⟨#[48]⟩, .int .i64 ((r : Int))]) (by simp [results, Tryz.results22, go_sem, y0, y1, y2]) rfl ⟨?_, HBF.out⟩
              rw [HTA.out]; rw [HST.out]; exact HLV.out _
          · obtain rfl : r = d.pool.length := by omega
            exfalso
            obtain ⟨k, hk, h5⟩ := stop_some d.fd_of HO.out.good HO.out.pool hi HNC.out
            exact hz.out k hk h5
    · have HPX : Hid (w.heap.size < PBx) := by show w.heap.size < PBx; have h9 := HVS.out; omega
      obtain ⟨m, hm⟩ : ∃ m : Nat, m = (lm s.tl i).toNat := ⟨_, rfl⟩
      rw [← hm] at hT1 hte
      rw [← hte] at ct
      have hmk := hT1.lt
      have hmki : (m : Int) < (d.pool.length : Int) := by omega
      have HT1 := hid hT1
      clear hm hT1 hte hti
      obtain ⟨tl_, htl_⟩ : ∃ t : ByteArray, t = ⟨(txt (d.lv i)).toArray⟩ := ⟨_, rfl⟩
      have HTL := hid htl_
      clear htl_
      obtain ⟨vt5, vg5, vh5, vs5, qo5, qn5, qc5, hbx5, hot5, hog5, hoh5, hos5, hoq5, hlt5_⟩ := (H.out.below HB_7.out).box
      have bl5 := hbx5.lt
      have f45 : wc.cell? ⟨d.pb, 4, none⟩ = some vh5 := hbx5.cell 4 _ rfl
      obtain ⟨hoo5, hc5, rfl⟩ := hoh5.shape
      rw [HS.out.hl] at hoh5 f45
      obtain ⟨hb5_, ha5, hk5, hcc5, rfl, hhb5, ch5, _, hrw5⟩ := hoh5.get (i := i) (by rw [HS.out.hl]; exact hi)
      rw [Nat.zero_add] at ch5
      have HH5 := hid hrw5
      have lh5 : hk5 ≤ 300 := by rw [← hrw5.len]; exact HS.out.hs i hi
      have f65 : wc.cell? ⟨d.pb, 6, none⟩ = some (.slice qo5 qn5 qc5) := hbx5.cell 6 _ rfl
      have HQ5 := hid hoq5
      have lq5 : qn5 ≤ 300 := by rw [← hoq5.len]; exact HS.out.q
      have f05 : wc.cell? ⟨d.pb, 0, none⟩ = some (.slice d.po d.pool.length d.pc) := hbx5.cell 0 _ rfl
      clear hbx5 hot5 hog5 hoh5 hos5 hoq5 hlt5_
      obtain ⟨ppb, pof, hpo, hppbW⟩ := H.out.pool.head (by omega)
      have hppb : ppb < wc.heap.size := Nat.lt_of_lt_of_le hppbW HB_7.out.size
      have cp := (H.out.below HB_7.out).pool.int hpo hmk
      rw [hpo] at f05
      clear hpo
      rw [d.P_eq HO.out m] at cp
      obtain ⟨db, dof, hdo, hdbW⟩ := HD.out.head (by omega)
      have hdb : db < wc.heap.size := Nat.lt_of_lt_of_le hdbW HB_7.out.size
      have cd := (HD.out.below HB_7.out).int hdo hmk
      rw [d.D_eq HO.out hi m] at cd
      have cb0 := XU_7.out.cell 0 _ rfl
      have cb1 := XU_7.out.cell 1 _ rfl
      have lbu := XU_7.out.lt
      rw [hdo] at cb0
      clear hdo
      rw [d.W_eq HO.out hi] at cb1
      obtain ⟨M1, hM1⟩ : ∃ M, M = d.a.D i m := ⟨_, rfl⟩
      obtain ⟨M2, hM2⟩ : ∃ M, M = d.a.P m := ⟨_, rfl⟩
      obtain ⟨M3, hM3⟩ : ∃ M, M = d.a.W i := ⟨_, rfl⟩
      rw [← hM1] at cd
      rw [← hM2] at cp
      rw [← hM3] at cb1
      have hM1b : M1 ≤ 10000 := by rw [hM1]; exact d.D_le HO.out hi _
      obtain ⟨X1, hX1, hX1b, hX1e⟩ := nat_prodK (a := M2) (b := M3) (A := 10000) (B := 100) (by rw [hM2]; exact d.P_le HO.out _) (by rw [hM3]; exact (d.W_le HO.out hi).2)
      have hX1w : IntKind.i64.wrap (X1 : Int) = (X1 : Int) := Go.IntWalk.i64_in _ ⟨by omega, by omega⟩
      have hX0 : s.q * X1 ≠ 0 := by
        rw [hX1e, hM2, hM3]
        have h1 := HE.out.q0
        have h2 := HT1.out.P
        have h3 := (d.W_le HO.out hi).1
        exact Nat.pos_iff_ne_zero.1 (Nat.mul_pos h1 (Nat.mul_pos h2 (by omega)))
      have HX0 := hid hX0
      have HTX : Hid (mkRat (sg false (nn s.hl i * M1)) (s.q * X1) = d.lv i) := by rw [hX1e, hM1, hM2, hM3]; exact HE.out.level HO.out hi HT1.out
      clear hM1 hM2 hM3 hX1e hX0
      go_upto_region 5 with fail
      have hpx1 : d.pb ≠ PBx := by have h1 := HPL.out; have h2 := HPX.out; omega
      have hpx2 : hb5_ ≠ PBx := by have h1 := H.out.haveLt HB_7.out f45; have h2 := HPX.out; omega
      have hpx3 : w.heap.size + 1 ≠ PBx := by have h2 := lePBx; have h3 := HVS.out; omega
      have hpx4 : db ≠ PBx := by have h2 := HPX.out; omega
      have hpx5 : ppb ≠ PBx := by have h2 := HPX.out; omega
      have SK : Hid (∀ U, Below wc.heap.size wc U → U.cell? ⟨d.pb, 4, none⟩ = some (.slice (some ⟨hb5_, 0, none⟩) d.us.length hc5) ∧ U.cell? ⟨hb5_, i, none⟩ = some (.slice ha5 hk5 hcc5) ∧ U.cell? ⟨w.heap.size + 1, 0, none⟩ = some (.slice (some ⟨db, dof, none⟩) d.pool.length dc) ∧ U.cell? ⟨db, dof + m, none⟩ = some (.int .i64 (M1 : Int)) ∧ U.cell? ⟨d.pb, 6, none⟩ = some (.slice qo5 qn5 qc5) ∧ U.cell? ⟨d.pb, 0, none⟩ = some (.slice (some ⟨ppb, pof, none⟩) d.pool.length d.pc) ∧ U.cell? ⟨ppb, pof + m, none⟩ = some (.int .i64 (M2 : Int)) ∧ U.cell? ⟨w.heap.size + 1, 1, none⟩ = some (.int .i64 (M3 : Int))) := fun U h => ⟨(h.cell (p := ⟨d.pb, 4, none⟩) bl5).trans f45, (h.cell (p := ⟨hb5_, i, none⟩) hhb5).trans ch5, (h.cell (p := ⟨w.heap.size + 1, 0, none⟩) lbu).trans cb0, (h.cell (p := ⟨db, dof + m, none⟩) hdb).trans cd, (h.cell (p := ⟨d.pb, 6, none⟩) bl5).trans f65, (h.cell (p := ⟨d.pb, 0, none⟩) bl5).trans f05, (h.cell (p := ⟨ppb, pof + m, none⟩) hppb).trans cp, (h.cell (p := ⟨w.heap.size + 1, 1, none⟩) lbu).trans cb1⟩
      have df45 : wc.drew.cell? ⟨d.pb, 4, none⟩ = some (.slice (some ⟨hb5_, 0, none⟩) d.us.length hc5) := ((Below.refl wc.heap.size wc).drew.cell (p := ⟨d.pb, 4, none⟩) bl5).trans f45
      have dch5 : wc.drew.cell? ⟨hb5_, i, none⟩ = some (.slice ha5 hk5 hcc5) := ((Below.refl wc.heap.size wc).drew.cell (p := ⟨hb5_, i, none⟩) hhb5).trans ch5
      have dcb0 : wc.drew.cell? ⟨w.heap.size + 1, 0, none⟩ = some (.slice (some ⟨db, dof, none⟩) d.pool.length dc) := ((Below.refl wc.heap.size wc).drew.cell (p := ⟨w.heap.size + 1, 0, none⟩) lbu).trans cb0
      have dcd : wc.drew.cell? ⟨db, dof + m, none⟩ = some (.int .i64 (M1 : Int)) := ((Below.refl wc.heap.size wc).drew.cell (p := ⟨db, dof + m, none⟩) hdb).trans cd
      have df65 : wc.drew.cell? ⟨d.pb, 6, none⟩ = some (.slice qo5 qn5 qc5) := ((Below.refl wc.heap.size wc).drew.cell (p := ⟨d.pb, 6, none⟩) bl5).trans f65
      have df05 : wc.drew.cell? ⟨d.pb, 0, none⟩ = some (.slice (some ⟨ppb, pof, none⟩) d.pool.length d.pc) := ((Below.refl wc.heap.size wc).drew.cell (p := ⟨d.pb, 0, none⟩) bl5).trans f05
      have dcp : wc.drew.cell? ⟨ppb, pof + m, none⟩ = some (.int .i64 (M2 : Int)) := ((Below.refl wc.heap.size wc).drew.cell (p := ⟨ppb, pof + m, none⟩) hppb).trans cp
      have dcb1 : wc.drew.cell? ⟨w.heap.size + 1, 1, none⟩ = some (.int .i64 (M3 : Int)) := ((Below.refl wc.heap.size wc).drew.cell (p := ⟨w.heap.size + 1, 1, none⟩) lbu).trans cb1
      go_region_held3 (fun w' => w'.cell? ⟨d.pb, 4, none⟩ = some (.slice (some ⟨hb5_, 0, none⟩) d.us.length hc5) ∧ w'.cell? ⟨hb5_, i, none⟩ = some (.slice ha5 hk5 hcc5) ∧ w'.cell? ⟨w.heap.size + 1, 0, none⟩ = some (.slice (some ⟨db, dof, none⟩) d.pool.length dc) ∧ w'.cell? ⟨db, dof + m, none⟩ = some (.int .i64 (M1 : Int)) ∧ w'.cell? ⟨d.pb, 6, none⟩ = some (.slice qo5 qn5 qc5) ∧ w'.cell? ⟨d.pb, 0, none⟩ = some (.slice (some ⟨ppb, pof, none⟩) d.pool.length d.pc) ∧ w'.cell? ⟨ppb, pof + m, none⟩ = some (.int .i64 (M2 : Int)) ∧ w'.cell? ⟨w.heap.size + 1, 1, none⟩ = some (.int .i64 (M3 : Int))) (first | exact SK.out _ (Below.refl _ _).drew | exact SK.out _ hv8g0 | exact SK.out _ hv8g1 | exact SK.out _ hv8g2 | exact SK.out _ hv8g3 | exact SK.out _ hv8g4 | exact ⟨(cell_set_ne hpx1).trans (SK.out _ hv8g4).1, (cell_set_ne hpx2).trans (SK.out _ hv8g4).2.1, (cell_set_ne hpx3).trans (SK.out _ hv8g4).2.2.1, (cell_set_ne hpx4).trans (SK.out _ hv8g4).2.2.2.1, (cell_set_ne hpx1).trans (SK.out _ hv8g4).2.2.2.2.1, (cell_set_ne hpx1).trans (SK.out _ hv8g4).2.2.2.2.2.1, (cell_set_ne hpx5).trans (SK.out _ hv8g4).2.2.2.2.2.2.1, (cell_set_ne hpx3).trans (SK.out _ hv8g4).2.2.2.2.2.2.2⟩)
        (first | (go_at_call 40; refine (ptext_as false to1 to2 tn1 tc1 tn2 tc2 (nn s.hl i * M1) (s.q * X1) (d.lv i) tl_ _ HTR1c.out HTR2.out (by omega) (by omega) HX0.out HTX.out HTL.out).mono ?_; rintro e8g4 w8g4 ⟨rfl, hb8g4⟩; have hv8g4 : Below wc.heap.size wc w8g4 := hv8g3.trans (hb8g4.mono (hv8g3).size); clear hb8g4; skip; have xk := XxB_7.out.keep hv8g4; have xk1 := xk.cell 1 _ rfl; have xz1 := xk.frozen 1; have xkl := xk.lt; clear xk) | (go_at_call 37; refine (ptimes_any qo5 wo2 qn5 qc5 wn2 wc2 s.q X1 _ (HQ5.out.below hv8g2) HWR2.out (by omega) (by omega)).mono ?_; rintro e8g3 w8g3 ⟨vt2, rfl, ⟨to2, tn2, tc2, rfl, htr2, _⟩, hb8g3⟩; have hv8g3 : Below wc.heap.size wc w8g3 := hv8g2.trans (hb8g3.mono (hv8g2).size); have HTR1c := hid (HTR1b.out.below hb8g3); clear hb8g3; have lt2 : tn2 ≤ 302 := (by rw [← htr2.len]; have h9 := len_mul s.q X1; have h8 := HWR2.out.len; have h7 := HQ5.out.len; omega); have HTR2 := hid htr2; clear htr2) | (go_at_call 35; refine ((fun _ => pwhole_any X1 _ (by omega)) HTR1).mono ?_; rintro e8g2 w8g2 ⟨vw2, rfl, ⟨wo2, wn2, wc2, rfl, hwr2, _⟩, hb8g2⟩; have hv8g2 : Below wc.heap.size wc w8g2 := hv8g1.trans (hb8g2.mono (hv8g1).size); have HTR1b := hid (HTR1.out.below hb8g2); clear hb8g2; have lw2 : wn2 ≤ 2 := (by rw [← hwr2.len]; have h9 := len_mono (a := X1) (b := 1000000) (by omega); have e9 : (limbs 1000000).length = 2 := (by decide); omega); have HWR2 := hid hwr2; clear hwr2) | (go_at_call 37; refine (ptimes_any ha5 wo1 hk5 hcc5 wn1 wc1 (nn s.hl i) M1 _ (HH5.out.below hv8g0) HWR1.out (by omega) (by omega)).mono ?_; rintro e8g1 w8g1 ⟨vt1, rfl, ⟨to1, tn1, tc1, rfl, htr1, _⟩, hb8g1⟩; have hv8g1 : Below wc.heap.size wc w8g1 := hv8g0.trans (hb8g1.mono (hv8g0).size); clear hb8g1; have lt1 : tn1 ≤ 302 := (by rw [← htr1.len]; have h9 := len_mul (nn s.hl i) M1; have h8 := HWR1.out.len; have h7 := HH5.out.len; omega); have HTR1 := hid htr1; clear htr1) | (go_at_call 35; refine (pwhole_any M1 _ (by omega)).mono ?_; rintro e8g0 w8g0 ⟨vw1, rfl, ⟨wo1, wn1, wc1, rfl, hwr1, _⟩, hb8g0⟩; have hv8g0 : Below wc.heap.size wc w8g0 := (Below.refl wc.heap.size wc).drew.trans (hb8g0.mono ((Below.refl wc.heap.size wc).drew).size); clear hb8g0; have lw1 : wn1 ≤ 2 := (by rw [← hwr1.len]; exact len_sml hM1b); have HWR1 := hid hwr1; clear hwr1))
      clear SK df45 dch5 dcb0 dcd df65 df05 dcp dcb1
      have XR_9 := hid (XR_7.out.keep hv8g4)
      have XU_9 := hid (XU_7.out.keep hv8g4)
      have XxB_9 := hid (XxB_7.out.keep hv8g4)
      have HB_9 : Hid (Below (w.heap.size) w w8g4) := HB_7.out.trans (hv8g4.mono (HB_7.out.size))
      clear XR_7 XU_7 XxB_7 HB_7
      have HX1 : Hid (Bx (w8g4.setCell ⟨PBx, 1, none⟩ (.string tl_)) PBx #[.string ta, .string tl_, .int .i64 (-1)] 35) := XxB_9.out.set1 _
      have HR1 : Hid (Bx (w8g4.setCell ⟨PBx, 1, none⟩ (.string tl_)) w.heap.size #[.string ⟨#[]⟩, .string ⟨#[]⟩, .int .i64 0] 35) := XR_9.out.other _ _ (by show PBx ≠ w.heap.size; have := HPX.out; omega)
      have HU1 : Hid (Bx (w8g4.setCell ⟨PBx, 1, none⟩ (.string tl_)) (w.heap.size + 1) #[.slice da d.pool.length dc, .int .i64 (ug d.us i).wt, .int .i64 (ug d.us i).cap] 56) := XU_9.out.other _ _ (by show PBx ≠ w.heap.size + 1; omega)
      have HB1 : Hid (Below w.heap.size w (w8g4.setCell ⟨PBx, 1, none⟩ (.string tl_))) := HB_9.out.setCell (by show w.heap.size ≤ PBx; have := HPX.out; omega) _
      clear xk1 xz1 xkl f45 ch5 hhb5 cb0 lbu cd hdb f65 bl5 f05 cp hppb cb1 hX1 hX1w HTR1 HTR1b HTR1c HTR2 HWR1 HWR2 HH5 HQ5
      obtain ⟨V5, hV5⟩ : ∃ V5, V5 = w8g4.setCell ⟨PBx, 1, none⟩ (.string tl_) := ⟨_, rfl⟩
      rw [← hV5] at HX1 HR1 HU1 HB1 ⊢
      clear hV5 XxB_9 XR_9 XU_9 HB_9
      have HLV : Hid (∀ z : Int, (Ending.returned (.agg #[.string ⟨(txt (d.ts i)).toArray⟩, .string tl_, .int .i64 z]) : Ending) = .returned (.agg #[.string ⟨(txt (d.ts i)).toArray⟩, .string ⟨(txt (d.lv i)).toArray⟩, .int .i64 z])) := fun z => by rw [HTL.out]
      obtain ⟨vt6, vg6, vh6, vs6, qo6, qn6, qc6, hbx6, hot6, hog6, hoh6, hos6, hoq6, hlt6_⟩ := (H.out.below HB1.out).box
      have bl6 := hbx6.lt
      have f66 : V5.cell? ⟨d.pb, 6, none⟩ = some (.slice qo6 qn6 qc6) := hbx6.cell 6 _ rfl
      have HQ6 := hid hoq6
      have lq6 : qn6 ≤ 300 := by rw [← hoq6.len]; exact HS.out.q
      clear hbx6 hot6 hog6 hoh6 hos6 hoq6 hlt6_
      have cu2 := HU1.out.cell 2 _ rfl
      have lu := HU1.out.lt
      obtain ⟨M, hM⟩ : ∃ M : Nat, (ug d.us i).cap = (M : Int) ∧ M = d.a.C i := ⟨_, d.C_eq HO.out hi, rfl⟩
      have cu2b : V5.cell? ⟨w.heap.size + 1, 2, none⟩ = some (.int .i64 (M : Int)) := by rw [← hM.1]; exact cu2
      have hM2 : M ≤ 10000 := by rw [hM.2]; have := d.C_le HO.out hi; omega
      have HMD := hid hM.2
      clear hM cu2
      go_upto_region 6 with fail
      have SK : Hid (∀ U, Below V5.heap.size V5 U → U.cell? ⟨w.heap.size + 1, 2, none⟩ = some (.int .i64 (M : Int)) ∧ U.cell? ⟨d.pb, 6, none⟩ = some (.slice qo6 qn6 qc6)) := fun U h => ⟨(h.cell (p := ⟨w.heap.size + 1, 2, none⟩) lu).trans cu2b, (h.cell (p := ⟨d.pb, 6, none⟩) bl6).trans f66⟩
      have dcu2b : V5.drew.cell? ⟨w.heap.size + 1, 2, none⟩ = some (.int .i64 (M : Int)) := ((Below.refl V5.heap.size V5).drew.cell (p := ⟨w.heap.size + 1, 2, none⟩) lu).trans cu2b
      have df66 : V5.drew.cell? ⟨d.pb, 6, none⟩ = some (.slice qo6 qn6 qc6) := ((Below.refl V5.heap.size V5).drew.cell (p := ⟨d.pb, 6, none⟩) bl6).trans f66
      go_region_held3 (fun w' => w'.cell? ⟨w.heap.size + 1, 2, none⟩ = some (.int .i64 (M : Int)) ∧ w'.cell? ⟨d.pb, 6, none⟩ = some (.slice qo6 qn6 qc6)) (first | exact SK.out _ (Below.refl _ _).drew | exact SK.out _ hv10g0 | exact SK.out _ hv10g1)
        (first | (go_at_call 37; refine (ptimes_any wo6 qo6 wn6 wc6 qn6 qc6 M s.q _ HWR6.out (HQ6.out.below hv10g0) (by omega) (by omega)).mono ?_; rintro e10g1 w10g1 ⟨vm6, rfl, ⟨mo, mn, mc, rfl, hmr, _⟩, hb10g1⟩; have hv10g1 : Below V5.heap.size V5 w10g1 := hv10g0.trans (hb10g1.mono (hv10g0).size); clear hb10g1; have lm6 : mn ≤ 302 := (by rw [← hmr.len]; have h9 := len_mul M s.q; have h8 := HWR6.out.len; have h7 := HQ6.out.len; omega); have HMR := hid hmr; clear hmr) | (go_at_call 35; refine (pwhole_any M _ (by omega)).mono ?_; rintro e10g0 w10g0 ⟨vw6, rfl, ⟨wo6, wn6, wc6, rfl, hwr6, _⟩, hb10g0⟩; have hv10g0 : Below V5.heap.size V5 w10g0 := (Below.refl V5.heap.size V5).drew.trans (hb10g0.mono ((Below.refl V5.heap.size V5).drew).size); clear hb10g0; have lw6 : wn6 ≤ 2 := (by rw [← hwr6.len]; exact len_sml hM2); have HWR6 := hid hwr6; clear hwr6))
      clear SK dcu2b df66
      have XR_11 := hid (HR1.out.keep hv10g1)
      have XU_11 := hid (HU1.out.keep hv10g1)
      have XxB_11 := hid (HX1.out.keep hv10g1)
      have HB_11 : Hid (Below (w.heap.size) w w10g1) := HB1.out.trans (hv10g1.mono (HB1.out.size))
      clear HR1 HU1 HX1 HB1
      clear cu2b lu f66 HWR6 HQ6 bl6
      obtain ⟨vt7, vg7, vh7, vs7, qo7, qn7, qc7, hbx7, hot7, hog7, hoh7, hos7, hoq7, hlt7_⟩ := (H.out.below HB_11.out).box
      have bl7 := hbx7.lt
      have f47 : w10g1.cell? ⟨d.pb, 4, none⟩ = some vh7 := hbx7.cell 4 _ rfl
      obtain ⟨hoo7, hc7, rfl⟩ := hoh7.shape
      rw [HS.out.hl] at hoh7 f47
      obtain ⟨hb7_, ha7, hk7, hcc7, rfl, hhb7, ch7, _, hrw7⟩ := hoh7.get (i := i) (by rw [HS.out.hl]; exact hi)
      rw [Nat.zero_add] at ch7
      have HH7 := hid hrw7
      have lh7 : hk7 ≤ 300 := by rw [← hrw7.len]; exact HS.out.hs i hi
      clear hbx7 hot7 hog7 hoh7 hos7 hoq7 hlt7_
      go_wp2_with fail
      refine (pcmp_any ha7 mo hk7 hcc7 mn mc (nn s.hl i) (M * s.q) _ HH7.out HMR.out (by omega) (by omega)).mono ?_
      rintro e7 w7 ⟨rfl, hb7⟩
      have XR_12 := hid (XR_11.out.keep hb7)
      have XU_12 := hid (XU_11.out.keep hb7)
      have XxB_12 := hid (XxB_11.out.keep hb7)
      have Rm_12 := hid (HMR.out.below hb7)
      have HB_12 : Hid (Below (w.heap.size) w w7) := HB_11.out.trans (hb7.mono (HB_11.out.size))
      clear XR_11 XU_11 XxB_11 HMR HB_11
      clear hb7 f47 ch7 hhb7 HH7 bl7
      by_cases hc : nn s.hl i = M * s.q
      · have HST : Hid (stopV d.fd (endS d.pool d.us) i = -1) := stopV_cap ((HE.out.cap HO.out hi).1 (by rw [hc, HMD.out]))
        have hcc : cmp3 ((nn s.hl i : Nat) : Int) ((M * s.q : Nat) : Int) = 0 := cmp3_zero.2 hc
        rw [hcc]
        clear hc hcc
        have x0 := XxB_12.out.cell 0 _ rfl
        have r0 := XR_12.out.cell 0 _ rfl
        have q0 := XR_12.out.frozen 0
        have x1 := XxB_12.out.cell 1 _ rfl
        have r1 := XR_12.out.cell 1 _ rfl
        have q1 := XR_12.out.frozen 1
        have x2 := XxB_12.out.cell 2 _ rfl
        have r2 := XR_12.out.cell 2 _ rfl
        have q2 := XR_12.out.frozen 2
        have xl := XxB_12.out.lt
        have rl := XR_12.out.lt
        have HRF := hid (XR_12.out.put3 (.string ta) (.string tl_) (.int .i64 (-1)))
        have HBF := hid (below_put3 HB_12.out (Nat.le_refl _) (.string ta) (.string tl_) (.int .i64 (-1)))
        unfold wput3 at HRF HBF
        go_wp2
        have y0 := HRF.out.cell 0 _ rfl
        have y1 := HRF.out.cell 1 _ rfl
        have y2 := HRF.out.cell 2 _ rfl
        refine bodyPost_ret (v := .agg #[.string ta, .string tl_, .int .i64 (-1)]) (by simp [results, Tryz.results22, go_sem, y0, y1, y2]) rfl ⟨?_, HBF.out⟩
        rw [HTA.out]; rw [HST.out]; exact HLV.out _
      · have HNC : Hid ((endS d.pool d.us).ts i ≠ (((ug d.us i).cap : Int) : Rat)) := fun h5 => hc (by rw [HMD.out]; exact (HE.out.cap HO.out hi).2 h5)
        have hcc : (cmp3 ((nn s.hl i : Nat) : Int) ((M * s.q : Nat) : Int) == 0) = false := by rw [beq_eq_false_iff_ne]; exact fun h5 => hc (cmp3_zero.1 h5)
        generalize cmp3 ((nn s.hl i : Nat) : Int) ((M * s.q : Nat) : Int) = cc at hcc ⊢
        clear hc
        go_wp2
        go_loopg [10] d.pool.length (fun gg ix wr => ∃ r : Nat, gg = d.pool.length - r ∧ r ≤ d.pool.length ∧ ix = .int .i64 r ∧ Hid (∀ k, k < r → ¬ HoldsB d.fd (endS d.pool d.us) k i) ∧ Hid (Bx wr w.heap.size #[.string ⟨#[]⟩, .string ⟨#[]⟩, .int .i64 0] 35) ∧ Hid (Bx wr PBx #[.string ta, .string tl_, .int .i64 (-1)] 35) ∧ Hid (Below w.heap.size w wr))
        case atStart => exact ⟨0, rfl, Nat.zero_le _, rfl, fun k hk => by omega, XR_12.out, XxB_12.out, HB_12.out⟩
        case round =>
          clear XR_12 XxB_12 HB_12 XU_12
          obtain ⟨r, hgr, hr, rfl, hz, XR, XX, hB⟩ := hrel
          obtain ⟨vt8, vg8, vh8, vs8, qo8, qn8, qc8, hbx8, hot8, hog8, hoh8, hos8, hoq8, hlt8_⟩ := (H.out.below hB.out).box
          have bl8 := hbx8.lt
          have g08 : wr.cell? ⟨d.pb, 0, none⟩ = some (.slice d.po d.pool.length d.pc) := hbx8.cell 0 _ rfl
          clear hbx8 hot8 hog8 hoh8 hos8 hoq8 hlt8_
          by_cases hrt : r < d.pool.length
          · have hrn : (r : Int) < (d.pool.length : Int) := by omega
            go_wp2_with fail
            refine (pholds_any d s r i _ (H.out.below hB.out) HO.out HS.out HE.out (HLE.out r hrt) hrt hi).mono ?_
            rintro e9 w9 ⟨⟨b, rfl, hbi⟩, hb9⟩
            have HBI := hid hbi
            clear hbi
            have XR_61 := hid (XR.out.keep hb9)
            have XxB_61 := hid (XX.out.keep hb9)
            have HB_61 : Hid (Below (w.heap.size) w w9) := hB.out.trans (hb9.mono (hB.out.size))
            clear XR XX hB
            clear hb9 g08 bl8
            cases b with
            | false =>
              have HZ2 : Hid (∀ k, k < r + 1 → ¬ HoldsB d.fd (endS d.pool d.us) k i) := fun k hk h5 => by
                by_cases e : k = r
                · subst e; have := HBI.out.2 (holdsN_iff.2 h5); cases this
                · exact hz.out k (by omega) h5
              go_wp2
              go_roundg (d.pool.length - (r + 1))
              case measure => omega
              case rel => exact ⟨r + 1, rfl, by omega, by go_num, HZ2.out, XR_61.out, XxB_61.out, HB_61.out⟩
            | true =>
              have HST : Hid (stopV d.fd (endS d.pool d.us) i = (r : Int)) := stopV_at HNC.out hrt hz.out (holdsN_iff.1 (HBI.out.1 rfl))
              have hX9 := XxB_61
              have hR9 := XR_61
              have hB9 := HB_61
              have x2a := hX9.out.cell 2 _ rfl
              have z2a := hX9.out.frozen 2
              have xla := hX9.out.lt
              have HX10 : Hid (Bx (w9.setCell ⟨PBx, 2, none⟩ (.int .i64 r)) PBx #[.string ta, .string tl_, .int .i64 r] 35) := hX9.out.set2 _
              have HR10 : Hid (Bx (w9.setCell ⟨PBx, 2, none⟩ (.int .i64 r)) w.heap.size #[.string ⟨#[]⟩, .string ⟨#[]⟩, .int .i64 0] 35) := hR9.out.other _ _ (by show PBx ≠ w.heap.size; have := HPX.out; omega)
              have HB10 : Hid (Below w.heap.size w (w9.setCell ⟨PBx, 2, none⟩ (.int .i64 r))) := hB9.out.setCell (by show w.heap.size ≤ PBx; have := HPX.out; omega) _
              clear hX9 hR9 hB9
              go_upto_region 16 with fail
              obtain ⟨V9, hV9⟩ : ∃ V9, V9 = w9.setCell ⟨PBx, 2, none⟩ (.int .i64 r) := ⟨_, rfl⟩
              rw [← hV9] at HX10 HR10 HB10 ⊢
              clear hV9 x2a z2a xla XxB_61 XR_61 HB_61
              have x0 := HX10.out.cell 0 _ rfl
              have r0 := HR10.out.cell 0 _ rfl
              have q0 := HR10.out.frozen 0
              have x1 := HX10.out.cell 1 _ rfl
              have r1 := HR10.out.cell 1 _ rfl
              have q1 := HR10.out.frozen 1
              have x2 := HX10.out.cell 2 _ rfl
              have r2 := HR10.out.cell 2 _ rfl
              have q2 := HR10.out.frozen 2
              have xl := HX10.out.lt
              have rl := HR10.out.lt
              have HRF := hid (HR10.out.put3 (.string ta) (.string tl_) (.int .i64 ((r : Int))))
              have HBF := hid (below_put3 HB10.out (Nat.le_refl _) (.string ta) (.string tl_) (.int .i64 ((r : Int))))
              unfold wput3 at HRF HBF
              go_wp2
              have y0 := HRF.out.cell 0 _ rfl
              have y1 := HRF.out.cell 1 _ rfl
              have y2 := HRF.out.cell 2 _ rfl
              refine bodyPost_ret (v := .agg #[.string ta, .string tl_, .int .i64 ((r : Int))]) (by simp [results, Tryz.results22, go_sem, y0, y1, y2]) rfl ⟨?_, HBF.out⟩
              rw [HTA.out]; rw [HST.out]; exact HLV.out _
          · obtain rfl : r = d.pool.length := by omega
            exfalso
            obtain ⟨k, hk, h5⟩ := stop_some d.fd_of HO.out.good HO.out.pool hi HNC.out
            exact hz.out k hk h5

end Go.Proofs.YtigokanoflkinaaGreatDoor
