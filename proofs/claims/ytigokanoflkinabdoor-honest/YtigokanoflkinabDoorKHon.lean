/- portionkeep.Honest. (Laid by mkhon.py.) -/
import Derived.Test.YtigokanoflkinabDoorKHonA
import Derived.Deep.RegionHeld3
import Derived.Deep.DeepCutAuto
namespace Go.Proofs.YtigokanoflkinabDoor
set_option linter.unusedSimpArgs false
set_option linter.unusedVariables false
open Go.RowKit Por

set_option maxHeartbeats 2000000 in
set_option maxRecDepth 20000 in
theorem kpick_any (c : Int) (n : Nat) (w : World) (h0 : -9223372036854775808 ≤ c) (h1 : c ≤ 9223372036854775807) (hn : 0 < n) (hn2 : n ≤ 1000) :
    Calls Tryd.prog 8 #[.int .i64 c, .int .i64 n] w fun e w' => (∃ p : Nat, p < n ∧ e = .returned (.int .i64 p)) ∧ w = w' := by
  have hz : ((n : Int) == 0) = false := by simp; omega
  have key : ∀ x : Int, 0 ≤ x → ∃ p : Nat, p < n ∧ Int.tmod x n = p := fun x hx => by
    have h3 := Int.emod_nonneg x (show (n : Int) ≠ 0 by omega)
    have h4 := Int.emod_lt_of_pos x (show (0 : Int) < n by omega)
    refine ⟨(x % n).toNat, by omega, ?_⟩
    rw [Int.tmod_eq_emod_of_nonneg hx]; omega
  by_cases hc : c < 0
  · obtain ⟨p, hp, e⟩ := key (-(c + 1)) (by omega)
    have HE := hid e; clear e
    have HKY := hid key; clear key
    go_enter Tryd.func8, Tryd.ntmps8
    go_wp2
    go_ret
    exact ⟨⟨p, hp, by rw [← HE.out, Int.neg_tmod]; rfl⟩, rfl⟩
  · obtain ⟨p, hp, e⟩ := key c (by omega)
    have HE := hid e; clear e
    have HKY := hid key; clear key
    go_enter Tryd.func8, Tryd.ntmps8
    go_wp2
    go_ret
    exact ⟨⟨p, hp, by rw [← HE.out, Int.tmod_eq_emod_of_nonneg (by omega)]; rfl⟩, rfl⟩

set_option maxHeartbeats 40000000 in
set_option maxRecDepth 20000 in
theorem honest_any (po : Option Addr) (pn pc : Nat) (pool : List Int) (ao : Option Addr) (n cap : Nat) (us : List Usr) (ri : Int) (dao : Option Addr) (ddn ddc : Nat) (dem : List Int) (most : Int) (w : World) (hp : Arr w 1 po pn pc (ints pool)) (hu : Users w ao n cap us) (hr0 : -9223372036854775808 ≤ ri) (hr1 : ri ≤ 9223372036854775807) (hd : Arr w 1 dao ddn ddc (ints dem)) (ht : Tab w) :
    Calls Tryd.prog 4 #[.slice po pn pc, .slice ao n cap, .int .i64 ri, .slice dao ddn ddc, .int .i64 most] w fun e w' => e = .returned (.bool true) ∧ Below w.heap.size w w' := by
  have hpl := hp.len
  rw [ints_len] at hpl
  have hul := hu.1
  subst hpl
  subst hul
  have HP := hid hp
  have HU := hid hu
  have HD := hid hd
  have HT := hid ht
  clear hp hu hd ht
  go_enter Tryd.func4, Tryd.ntmps4
  go_wp2_with fail
  refine (ask_any po pool.length pc pool ao us.length cap us _ HP.out HU.out HT.out).mono ?_
  rintro e1 w1 hask
  unfold AskEnd at hask
  by_cases he : errOf pool us = 0
  · rw [if_pos he] at hask
    obtain ⟨g, d, rfl, hsol⟩ := hask
    obtain ⟨hpb, hn6, hgood, hpa, hp1, hp4⟩ := errOf_zero he
    have HG := hid hgood
    have HPA := hid hpa
    have HSH := hid hsol.sh
    have HB1 := hid hsol.bel
    have hsl := hsol.sh.lt
    clear hgood hpa hpb he hsol
    by_cases h00 : us.length = 0
    · have hz : ((us.length : Int) == 0) = true := beq_iff_eq.2 (by omega)
      go_wp2
      go_ret
      exact ⟨rfl, HB1.out⟩
    · have hz : ((us.length : Int) == 0) = false := beq_eq_false_iff_ne.2 (by omega)
      have HU1 := hid (HU.out.below HB1.out)
      go_wp2_with fail
      refine (kpick_any ri us.length _ hr0 hr1 (by omega) (by omega)).mono ?_
      rintro e2 w2 ⟨⟨p, hp, rfl⟩, rfl⟩
      go_wp2_with (at_make; refine wpList_make_usrs _ rfl _ _ rfl _ _ us.length rfl rfl (by omega) (by omega) (by omega) ?_)
      intro w3 HC3 hb3 hl3
      have HB3 := hid hb3
      clear hb3
      go_wp2_with (refine wpList_copy_usrs w1 _ rfl (.tmp 45) (.tmp 46) rfl w1.heap.size us.length us.length cap ao us (by omega) rfl rfl HC3.out HU1.out HB3.out (Nat.le_refl _) ?_)
      intro w4 HUB hb4
      have HB4 := hid hb4
      clear hb4 HC3 HB3 hl3
      obtain ⟨ub, uo, da, dn, dc, hao, hbl, a0, a1, a2, hdd⟩ := (HU1.out.below HB4.out).get hp
      subst hao
      have hpn : (p : Int) < (us.length : Int) := by omega
      have hwt := HG.out.wt hp
      clear hdd a0 a2
      obtain ⟨x0, hx0⟩ := HUB.out.has (j := p * 3) (by omega)
      obtain ⟨x1, hx1⟩ := HUB.out.has (j := p * 3 + 1) (by omega)
      obtain ⟨x2, hx2⟩ := HUB.out.has (j := p * 3 + 2) (by omega)
      have z0 := HUB.out.frozen (p * 3)
      have z1 := HUB.out.frozen (p * 3 + 1)
      have z2 := HUB.out.frozen (p * 3 + 2)
      have ltt := HUB.out.lt
      have HB5 : Hid (Below w1.heap.size w1 (wputA w4 w1.heap.size (p * 3) (.slice dao ddn ddc) (.int .i64 (ug us p).wt) (.int .i64 most))) := below_putA HB4.out (Nat.le_refl _) _ _ _
      have HU5 : Hid (Users (wputA w4 w1.heap.size (p * 3) (.slice dao ddn ddc) (.int .i64 (ug us p).wt) (.int .i64 most)) (some ⟨w1.heap.size, 0, none⟩) us.length us.length (lie us p (⟨dem, (ug us p).wt, most⟩ : Usr))) := (HUB.out.put hp (⟨dem, (ug us p).wt, most⟩ : Usr) (HD.out.below HB1.out)).users HB5.out (by unfold maxLen; omega)
      have HLU : Hid (((lie us p (⟨dem, (ug us p).wt, most⟩ : Usr))).length = us.length) := lie_len _ _ _
      go_wp2_with fail
      refine (ask_any po pool.length pc pool (some ⟨w1.heap.size, 0, none⟩) us.length us.length (lie us p (⟨dem, (ug us p).wt, most⟩ : Usr)) (wputA w4 w1.heap.size (p * 3) (.slice dao ddn ddc) (.int .i64 (ug us p).wt) (.int .i64 most)) ((HP.out.below HB1.out).below HB5.out) HU5.out (HT.out.of (HB1.out.trans (HB5.out.mono HB1.out.size)))).mono ?_
      rintro e5 w6 hask
      clear hx0 hx1 hx2 z0 z1 z2 ltt a1 x0 x1 x2
      unfold AskEnd at hask
      by_cases he : errOf pool (lie us p (⟨dem, (ug us p).wt, most⟩ : Usr)) = 0
      · rw [if_pos he] at hask
        obtain ⟨g2, d2, rfl, hsol⟩ := hask
        obtain ⟨hpb2, hn62, hgood2, hpa2, hp12, hp42⟩ := errOf_zero he
        have HG2 := hid hgood2
        have HSH2 := hid hsol.sh
        have hsl2 := hsol.sh.lt
        have HB6 := hid (HB5.out.trans (hsol.bel.mono HB5.out.size))
        have HU6 := hid (HU5.out.below hsol.bel)
        have HSH1 := hid (HSH.out.below HB6.out)
        have HUO := hid (HU1.out.below HB6.out)
        have HT6 := hid ((HT.out.of HB1.out).of HB6.out)
        clear hgood2 hpa2 hpb2 he hsol HUB HB4 HB5 HU5 HSH HU1 hsl
        have HD1 : Hid (Dg ((endS pool us).ts p) 128) := due_dg HG.out HPA.out hn6 hp4 hp
        have HD2 : Hid (Dg ((endS pool (lie us p (⟨dem, (ug us p).wt, most⟩ : Usr))).ts p) 128) := due_dg HG2.out HPA.out (by rw [HLU.out]; exact hn6) hp4 (by rw [HLU.out]; exact hp)
        have HX2 : Hid (0 ≤ ((endS pool (lie us p (⟨dem, (ug us p).wt, most⟩ : Usr))).ts p)) := (endS_fair HG2.out HPA.out).1.low p (by show p < ((lie us p (⟨dem, (ug us p).wt, most⟩ : Usr))).length; rw [HLU.out]; exact hp)
        have HK0 := hid (bx_new w6 #[.bool false] 29)
        have HB0 := hid ((Below.refl w6.heap.size w6).alloc (Nat.le_refl _) (.cells #[.bool false] 29))
        go_upto_region 12 with fail
        obtain ⟨V, hV⟩ : ∃ V, V = w6.alloc (.cells #[.bool false] 29) := ⟨_, rfl⟩
        rw [← hV] at HK0 HB0 ⊢
        clear hV
        obtain ⟨xb, xo, dab, dnb, dcb, hao, hblb, b0, b1, b2, hdb⟩ := (HU6.out.below HB0.out).get hp
        cases hao
        rw [Nat.zero_add] at b0 b1 b2
        rw [lie_same (⟨dem, (ug us p).wt, most⟩ : Usr) hp] at b1 b2 hdb
        have hdlb := hdb.len
        have hdem := HG2.out.dem (i := p) (by rw [HLU.out]; exact hp)
        have hdl2 := HG2.out.len (i := p) (by rw [HLU.out]; exact hp)
        rw [lie_same (⟨dem, (ug us p).wt, most⟩ : Usr) hp] at hdem hdl2
        rw [ints_len, hdl2] at hdlb
        have HDLB := hid hdlb
        have HDEM := hid hdem
        have HDB := hid hdb
        clear hdlb hdb hdem hdl2
        obtain ⟨bsh, bsh1, bsh2⟩ := (HSH2.out.below HB0.out).cells (i := p) (by rw [HLU.out]; exact hp)
        have bsl := (HSH2.out.below HB0.out).lt
        have hpl2 : (p : Int) < ((((lie us p (⟨dem, (ug us p).wt, most⟩ : Usr))).length : Nat) : Int) := by rw [HLU.out]; omega
        obtain ⟨t2, ht2⟩ : ∃ t2, t2 = ((endS pool (lie us p (⟨dem, (ug us p).wt, most⟩ : Usr))).ts p) := ⟨_, rfl⟩
        have HT2 := hid ht2
        clear ht2
        rw [← HT2.out] at bsh
        have HD3 : Hid (Dg t2 128) := by rw [HT2.out]; exact HD2.out
        have HX3 : Hid (0 ≤ t2) := by rw [HT2.out]; exact HX2.out
        clear HD2 HX2
        have SK : Hid (∀ U, Below V.heap.size V U → U.cell? ⟨w1.heap.size, p * 3, none⟩ = some (.slice dab dnb dcb) ∧ U.cell? ⟨w1.heap.size, p * 3 + 1, none⟩ = some (.int .i64 (ug us p).wt) ∧ U.cell? ⟨w1.heap.size, p * 3 + 2, none⟩ = some (.int .i64 most) ∧ U.cell? ⟨g2, p * 3, none⟩ = some (.string ⟨(txt (t2)).toArray⟩)) := fun U h => ⟨(h.cell (p := ⟨w1.heap.size, p * 3, none⟩) hblb).trans b0, (h.cell (p := ⟨w1.heap.size, p * 3 + 1, none⟩) hblb).trans b1, (h.cell (p := ⟨w1.heap.size, p * 3 + 2, none⟩) hblb).trans b2, (h.cell (p := ⟨g2, p * 3, none⟩) bsl).trans bsh⟩
        have KC : Hid (∀ U, Below V.heap.size V U → Calls Tryd.prog 9 #[.pointer (some ⟨w6.heap.size, 0, none⟩), .agg #[.slice dab dnb dcb, .int .i64 (ug us p).wt, .int .i64 most], .string ⟨(txt (t2)).toArray⟩, .string ⟨#[49]⟩] U (fun e w' => ∃ vo vc, e = .returned (.slice vo pool.length vc) ∧ Arr w' 1 vo pool.length vc (strs ((bunL t2 1 dem pool.length).map tb)) ∧ Below V.heap.size V w')) := fun U hU => (bundle_one (.pointer (some ⟨w6.heap.size, 0, none⟩)) dab dnb dcb (⟨dem, (ug us p).wt, most⟩ : Usr) t2 128 U (HDB.out.below hU) HDEM.out (by have := HDLB.out; omega) HD3.out (by omega) (by omega) (HT6.out.of (HB0.out.trans (hU.mono HB0.out.size)))).mono (fun e w' ⟨v, h1, h2, h3⟩ => by
        obtain ⟨vo, vc, rfl, har⟩ := h2.arr
        rw [show dnb = pool.length from HDLB.out.symm] at har h1
        rw [bunL_len] at har h1
        exact ⟨vo, vc, h1, har, hU.trans (h3.mono hU.size)⟩)
        have db0 : V.drew.cell? ⟨w1.heap.size, p * 3, none⟩ = some (.slice dab dnb dcb) := ((Below.refl V.heap.size V).drew.cell (p := ⟨w1.heap.size, p * 3, none⟩) hblb).trans b0
        have db1 : V.drew.cell? ⟨w1.heap.size, p * 3 + 1, none⟩ = some (.int .i64 (ug us p).wt) := ((Below.refl V.heap.size V).drew.cell (p := ⟨w1.heap.size, p * 3 + 1, none⟩) hblb).trans b1
        have db2 : V.drew.cell? ⟨w1.heap.size, p * 3 + 2, none⟩ = some (.int .i64 most) := ((Below.refl V.heap.size V).drew.cell (p := ⟨w1.heap.size, p * 3 + 2, none⟩) hblb).trans b2
        have dbsh : V.drew.cell? ⟨g2, p * 3, none⟩ = some (.string ⟨(txt (t2)).toArray⟩) := ((Below.refl V.heap.size V).drew.cell (p := ⟨g2, p * 3, none⟩) bsl).trans bsh
        go_region_held3 (fun w' => w'.cell? ⟨w1.heap.size, p * 3, none⟩ = some (.slice dab dnb dcb) ∧ w'.cell? ⟨w1.heap.size, p * 3 + 1, none⟩ = some (.int .i64 (ug us p).wt) ∧ w'.cell? ⟨w1.heap.size, p * 3 + 2, none⟩ = some (.int .i64 most) ∧ w'.cell? ⟨g2, p * 3, none⟩ = some (.string ⟨(txt (t2)).toArray⟩)) (first | exact SK.out _ (Below.refl _ _).drew | exact SK.out _ hb51g)
          (first | (go_at_call 9; refine (KC.out _ ?hU).mono ?_; (case hU => exact (Below.refl _ _).drew); rintro e51g w51g ⟨vox, vcx, rfl, harx, hb51g⟩))
        clear SK KC db0 db1 db2 dbsh
        have XK_52 := hid (HK0.out.keep hb51g)
        have Rub_52 := hid (HDB.out.below hb51g)
        have HB_52 : Hid (Below w6.heap.size w6 w51g) := HB0.out.trans (hb51g.mono HB0.out.size)
        clear HK0 HDB HB0
        clear hb51g
        have HAR := hid harx
        clear harx b0 b1 b2 bsh bsh1 bsh2
        go_upto_region 13 with fail
        obtain ⟨xb, xo, daa, dna, dca, hao, hbla, a0, a1, a2, hda⟩ := (HUO.out.below HB_52.out).get hp
        cases hao
        have HDA := hid hda
        clear hda
        obtain ⟨ash, ash1, ash2⟩ := (HSH1.out.below HB_52.out).cells hp
        have asl := (HSH1.out.below HB_52.out).lt
        have HBD : Hid (∀ r, r < (bunL t2 1 dem pool.length).length → Dg (rq (bunL t2 1 dem pool.length) r) 134) := bun_dg HD3.out one_dg HDEM.out
        have HBN : Hid (∀ r, r < (bunL t2 1 dem pool.length).length → 0 ≤ rq (bunL t2 1 dem pool.length) r) := bun_nonneg HX3.out (by decide) HDEM.out
        have HUF : Hid (usefulOf (ug us p) ((bunL t2 1 dem pool.length).map tb) = (txt (useQ (ug us p) (rq (bunL t2 1 dem pool.length)) pool.length), 0)) := by have h9 := useful_map (u := ug us p) HBD.out (by omega) (by omega) HBN.out (by rw [bunL_len]; omega) (by rw [bunL_len]; omega) (by rw [bunL_len]; exact HG.out p hp); rw [bunL_len] at h9; exact h9
        have HMD : Hid (Dg (useQ (ug us p) (rq (bunL t2 1 dem pool.length)) pool.length) 139) := useQ_dg (fun r hr => HBD.out r (by rw [bunL_len]; exact hr)) (HG.out.dem hp) (HG.out.cap hp) (by omega)
        have HLE : Hid ((useQ (ug us p) (rq (bunL t2 1 dem pool.length)) pool.length) ≤ ((endS pool us).ts p)) := by have h9 := use_honest HG.out HPA.out hp (⟨dem, (ug us p).wt, most⟩ : Usr) rfl HG2.out; rw [← HT2.out] at h9; exact h9
        have HTX := hid (tx_size HBD.out (by omega) (by omega))
        have HDT : Hid (decide ((useQ (ug us p) (rq (bunL t2 1 dem pool.length)) pool.length) ≤ ((endS pool us).ts p)) = true) := decide_eq_true HLE.out
        have SK : Hid (∀ U, Below w51g.heap.size w51g U → U.cell? ⟨ub, uo + p * 3, none⟩ = some (.slice daa dna dca) ∧ U.cell? ⟨ub, uo + p * 3 + 1, none⟩ = some (.int .i64 (ug us p).wt) ∧ U.cell? ⟨ub, uo + p * 3 + 2, none⟩ = some (.int .i64 (ug us p).cap) ∧ U.cell? ⟨g, p * 3, none⟩ = some (.string ⟨(txt (((endS pool us).ts p))).toArray⟩)) := fun U h => ⟨(h.cell (p := ⟨ub, uo + p * 3, none⟩) hbla).trans a0, (h.cell (p := ⟨ub, uo + p * 3 + 1, none⟩) hbla).trans a1, (h.cell (p := ⟨ub, uo + p * 3 + 2, none⟩) hbla).trans a2, (h.cell (p := ⟨g, p * 3, none⟩) asl).trans ash⟩
        have KC : Hid (∀ U, Below w51g.heap.size w51g U → Calls Tryd.prog 7 #[.pointer (some ⟨w6.heap.size, 0, none⟩), .agg #[.slice daa dna dca, .int .i64 (ug us p).wt, .int .i64 (ug us p).cap], .slice vox pool.length vcx, .string ⟨(txt (((endS pool us).ts p))).toArray⟩] U (fun e w' => e = .returned (.bool true) ∧ Below w51g.heap.size w51g w')) := fun U hU => (atMost_any (.pointer (some ⟨w6.heap.size, 0, none⟩)) daa dna dca (ug us p) vox pool.length vcx ((bunL t2 1 dem pool.length).map tb) (useQ (ug us p) (rq (bunL t2 1 dem pool.length)) pool.length) ((endS pool us).ts p) 139 128 U (HDA.out.below hU) (HAR.out.below hU) HTX.out HUF.out HMD.out HD1.out (by omega) (by omega) (by omega) (by omega) (HT6.out.of (HB_52.out.trans (hU.mono HB_52.out.size)))).mono (fun e w' ⟨h1, h3⟩ => ⟨h1.trans (by rw [HDT.out]), hU.trans (h3.mono hU.size)⟩)
        have da0 : w51g.drew.cell? ⟨ub, uo + p * 3, none⟩ = some (.slice daa dna dca) := ((Below.refl w51g.heap.size w51g).drew.cell (p := ⟨ub, uo + p * 3, none⟩) hbla).trans a0
        have da1 : w51g.drew.cell? ⟨ub, uo + p * 3 + 1, none⟩ = some (.int .i64 (ug us p).wt) := ((Below.refl w51g.heap.size w51g).drew.cell (p := ⟨ub, uo + p * 3 + 1, none⟩) hbla).trans a1
        have da2 : w51g.drew.cell? ⟨ub, uo + p * 3 + 2, none⟩ = some (.int .i64 (ug us p).cap) := ((Below.refl w51g.heap.size w51g).drew.cell (p := ⟨ub, uo + p * 3 + 2, none⟩) hbla).trans a2
        have dash : w51g.drew.cell? ⟨g, p * 3, none⟩ = some (.string ⟨(txt (((endS pool us).ts p))).toArray⟩) := ((Below.refl w51g.heap.size w51g).drew.cell (p := ⟨g, p * 3, none⟩) asl).trans ash
        go_region_held3 (fun w' => w'.cell? ⟨ub, uo + p * 3, none⟩ = some (.slice daa dna dca) ∧ w'.cell? ⟨ub, uo + p * 3 + 1, none⟩ = some (.int .i64 (ug us p).wt) ∧ w'.cell? ⟨ub, uo + p * 3 + 2, none⟩ = some (.int .i64 (ug us p).cap) ∧ w'.cell? ⟨g, p * 3, none⟩ = some (.string ⟨(txt (((endS pool us).ts p))).toArray⟩)) (first | exact SK.out _ (Below.refl _ _).drew | exact SK.out _ hb53g)
          (first | (go_at_call 7; refine (KC.out _ ?hU).mono ?_; (case hU => exact (Below.refl _ _).drew); rintro e53g w53g ⟨rfl, hb53g⟩))
        clear SK KC da0 da1 da2 dash
        have XK_54 := hid (XK_52.out.keep hb53g)
        have Rlx_54 := hid (HAR.out.below hb53g)
        have Rua_54 := hid (HDA.out.below hb53g)
        have HB_54 : Hid (Below w6.heap.size w6 w53g) := HB_52.out.trans (hb53g.mono HB_52.out.size)
        clear XK_52 HAR HDA HB_52
        clear hb53g
        clear a0 a1 a2 ash ash1 ash2
        have ltK := XK_54.out.lt
        have cK0 := XK_54.out.cell 0 _ rfl
        go_wp2
        go_ret
        exact ⟨rfl, HB1.out.trans ((HB6.out.trans (HB_54.out.mono HB6.out.size)).mono HB1.out.size)⟩
      · rw [if_neg he] at hask
        obtain ⟨rfl, hb6⟩ := hask
        have HB6 := hid hb6
        clear hb6
        go_wp2
        go_ret
        exact ⟨rfl, HB1.out.trans ((HB5.out.trans (HB6.out.mono HB5.out.size)).mono HB1.out.size)⟩
  · rw [if_neg he] at hask
    obtain ⟨rfl, hb1⟩ := hask
    have HB1 := hid hb1
    clear hb1
    go_wp2
    go_ret
    exact ⟨rfl, HB1.out⟩

end Go.Proofs.YtigokanoflkinabDoor
