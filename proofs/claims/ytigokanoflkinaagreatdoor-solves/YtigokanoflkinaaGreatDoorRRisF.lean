/- The rise of the reference: stop. (Laid by mkrisef.py.) -/
import Derived.Test.YtigokanoflkinaaGreatDoorRRsA
import Derived.Deep.RegionLaw
namespace Go.Proofs.YtigokanoflkinaaGreatDoor
set_option linter.unusedSimpArgs false
set_option linter.unusedVariables false
open Go.RowKit Por

theorem lm_map {l : List Nat} {k x : Nat} (h : l[k]? = some x) : lm (l.map (fun (n : Nat) => (n : Int))) k = (x : Int) := by
  simp [lm, h]
theorem mem_take_succ {l : List Nat} {k x j : Nat} (h : l[k]? = some x) : j ∈ l.take (k + 1) ↔ j ∈ l.take k ∨ j = x := by
  rw [List.take_add_one, h]; simp
set_option maxHeartbeats 20000000 in
set_option maxRecDepth 20000 in
theorem pstop_any (d : RD) (s : RV) (w : World) (h : RisM w d s) (ho : d.Ok) (hs : s.Ok d) (hle : ∀ r, r < d.pool.length → ∀ i, i < d.us.length → bn s.sl i = false → d.a.D i r * nn s.hl i ≤ leftT d.a s.R r i) :
    Calls Tryz.prog 21 #[.pointer (some ⟨d.pb, 0, none⟩)] w fun e w' => (((nextT d.a (nn s.gl) s.R).2.1 = 0 ∧ e = .returned (.bool false) ∧ Below w.heap.size w w') ∨ ((nextT d.a (nn s.gl) s.R).2.1 ≠ 0 ∧ (limbs (nextT d.a (nn s.gl) s.R).2.1).length ≤ 16 ∧ e = .returned (.bool true) ∧ ∃ t : RV, RisM w' d t ∧ t.tl = s.tl ∧ t.gl = s.gl ∧ t.hl.length = d.us.length ∧ t.sl.length = d.us.length ∧ TurnT d.a (nn s.gl) s.R t.R ∧ Below d.pb w w')) := by
  have hk4 := ho.k4
  have hn6 := ho.n6
  have H := hid h
  have HO := hid ho
  have HS := hid hs
  have HLE := hid hle
  clear h ho hs hle
  have HB_0 := hid (Below.refl w.heap.size w)
  go_enter Tryz.func21, Tryz.ntmps21
  go_wp2_with fail
  refine (pnext_any d s _ H.out HO.out HS.out HLE.out).mono ?_
  rintro e1 w1 ⟨no, nm, nc, so, sm, sc, rfl, hN, hS, ln, ls, hb1⟩
  obtain ⟨N, hxN⟩ : ∃ N, (nextT d.a (nn s.gl) s.R).1 = N := ⟨_, rfl⟩
  obtain ⟨S, hxS⟩ : ∃ S, (nextT d.a (nn s.gl) s.R).2.1 = S := ⟨_, rfl⟩
  obtain ⟨kd, hxK⟩ : ∃ kd, (nextT d.a (nn s.gl) s.R).2.2 = kd := ⟨_, rfl⟩
  rw [hxN] at hN
  rw [hxS] at hS
  rw [hxK]
  have HX : Hid (nextT d.a (nn s.gl) s.R = (N, S, kd)) := by rw [← hxN, ← hxS, ← hxK]; rfl
  clear hxN hxS hxK
  have HR1 : Hid (RisM w1 d s) := H.out.below hb1
  have HNN := hid hN
  have HSS := hid hS
  have lsm := hS.len
  have HSL : Hid ((limbs S).length ≤ 16) := by rw [Hid, lsm]; exact ls
  have HB1 : Hid (Below w.heap.size w w1) := HB_0.out.trans (hb1.mono HB_0.out.size)
  have HPB : Hid (d.pb ≤ w.heap.size) := by obtain ⟨_, _, _, _, _, _, _, hq, _⟩ := H.out.box; exact Nat.le_of_lt hq.lt
  clear hb1 hN hS HB_0 H
  by_cases hS0 : S = 0
  · subst hS0
    have hsm : sm = 0 := by rw [← lsm, limbs_zero]; rfl
    subst hsm
    clear lsm
    go_wp2
    go_ret
    exact Or.inl ⟨by rw [HX.out], rfl, HB1.out⟩
  · have hsm : ((sm : Int) == 0) = false := by rw [beq_eq_false_iff_ne]; intro h5; exact hS0 (limbs_len_zero.1 (by omega))
    have HS0 := hid hS0
    clear hS0 lsm
    go_wp2
    go_loopg [6, 7] d.us.length (fun gg vl ix wr => ∃ (i : Nat) (l : List Nat), gg = d.us.length - i ∧ i ≤ d.us.length ∧ ix = .int .i64 i ∧ Hid (Own w1.heap.size wr vl (l.map (fun (n : Nat) => (n : Int)))) ∧ Hid (∀ j, j ∈ l ↔ j < i ∧ bn s.sl j = true ∧ stopT d.a (nn s.gl) s.R N S j) ∧ l.length ≤ i ∧ Hid (Below w1.heap.size w1 wr))
    case atStart => exact ⟨0, [], rfl, Nat.zero_le _, rfl, Own.nil _ _, fun j => ⟨fun h5 => (by cases h5), fun h5 => absurd h5.1 (by omega)⟩, by simp, Below.refl _ _⟩
    case round =>
      obtain ⟨i, l, hgi, hi, rfl, hO, hM, hll, hB⟩ := hrel
      obtain ⟨vt2, vg2, vh2, vs2, qo2, qn2, qc2, hbx2, hot2, hog2, hoh2, hos2, hoq2, hlt2_⟩ := (HR1.out.below hB.out).box
      have bl2 := hbx2.lt
      have e1 : wr.cell? ⟨d.pb, 1, none⟩ = some (.slice d.ao d.us.length d.cap) := hbx2.cell 1 _ rfl
      by_cases hit : i < d.us.length
      · have hin : (i : Int) < (d.us.length : Int) := by omega
        have e5 : wr.cell? ⟨d.pb, 5, none⟩ = some vs2 := hbx2.cell 5 _ rfl
        have hsl := HS.out.sl
        obtain ⟨so2, sc2, rfl⟩ := hos2.shape
        rw [hsl] at hos2 e5
        obtain ⟨sb, rfl, hsb, cs, _⟩ := hos2.get (i := i) (by omega)
        rw [Nat.zero_add] at cs
        clear hbx2 hot2 hog2 hoh2 hos2 hoq2 hlt2_
        have HNEW : Hid (¬ (bn s.sl i = true ∧ stopT d.a (nn s.gl) s.R N S i) → ∀ j, j ∈ l ↔ j < i + 1 ∧ bn s.sl j = true ∧ stopT d.a (nn s.gl) s.R N S j) := fun h5 j => by
          rw [hM.out j]
          constructor
          · exact fun h6 => ⟨by omega, h6.2⟩
          · intro h6
            by_cases e : j = i
            · subst e; exact absurd h6.2 h5
            · exact ⟨by omega, h6.2⟩
        cases hst : bn s.sl i with
        | false =>
          have HM2 := hid (HNEW.out (fun h5 => by rw [hst] at h5; cases h5.1))
          go_wp2
          go_roundg (d.us.length - (i + 1))
          case measure => omega
          case rel => exact ⟨i + 1, l, rfl, by omega, by go_num, hO.out, HM2.out, by omega, hB.out⟩
        | true =>
          rw [hst] at cs
          have HST := hid hst
          clear hst
          go_wp2_with fail
          refine (pstops_any d s i no so nm nc sm sc N S _ (HR1.out.below hB.out) HO.out HS.out HLE.out hit (HNN.out.below hB.out) (HSS.out.below hB.out) ln ls).mono ?_
          rintro e7 w7 ⟨⟨b, rfl, hbi⟩, hb7⟩
          have HBI := hid hbi
          clear hbi
          clear e5 cs bl2 e1 hsb
          have HB7 : Hid (Below w1.heap.size w1 w7) := hB.out.trans (hb7.mono hB.out.size)
          have HO7 := hid (hO.out.below hb7)
          clear hb7 hO hB
          cases b with
          | false =>
            have HM2 := hid (HNEW.out (fun h5 => by have := HBI.out.2 h5.2; cases this))
            go_wp2
            go_roundg (d.us.length - (i + 1))
            case measure => omega
            case rel => exact ⟨i + 1, l, rfl, by omega, by go_num, HO7.out, HM2.out, by omega, HB7.out⟩
          | true =>
            have HM2 : Hid (∀ j, j ∈ l ++ [i] ↔ j < i + 1 ∧ bn s.sl j = true ∧ stopT d.a (nn s.gl) s.R N S j) := fun j => by
              rw [List.mem_append, List.mem_singleton, hM.out j]
              constructor
              · rintro (h6 | rfl)
                · exact ⟨by omega, h6.2⟩
                · exact ⟨by omega, HST.out, HBI.out.1 rfl⟩
              · intro h6
                by_cases e : j = i
                · exact Or.inr e
                · exact Or.inl ⟨by omega, h6.2⟩
            go_wp2_with (at_builtin; refine wpList_append_ints _ rfl _ _ rfl w1.heap.size _ (l.map (fun (n : Nat) => (n : Int))) ⟨w7.heap.size, 0, none⟩ 1 1 [(i : Int)] rfl rfl (HO7.out.below ((Below.refl _ _).alloc (Nat.le_refl _) _)) rfl (fun j hj => match j, hj with | 0, _ => (bx_new w7 #[.int .i64 (i : Int)] 3).cell 0 _ rfl | j + 1, hj => absurd hj (by omega)) (by rw [List.length_map]; omega) (by have := HB7.out.size; simp only [World.size_alloc]; omega) ?_)
            intro v' w' hO2 hB2
            have HO2 : Hid (Own w1.heap.size w' v' ((l ++ [i]).map (fun (n : Nat) => (n : Int)))) := by rw [List.map_append]; exact hO2
            have HB2 : Hid (Below w1.heap.size w1 w') := (HB7.out.alloc HB7.out.size _).trans hB2
            clear hO2 hB2
            go_wp2
            go_roundg (d.us.length - (i + 1))
            case measure => omega
            case rel => exact ⟨i + 1, l ++ [i], rfl, by omega, by go_num, HO2.out, HM2.out, by simp; omega, HB2.out⟩
      · obtain rfl : i = d.us.length := by omega
        clear hbx2 hot2 hog2 hoh2 hos2 hoq2 hlt2_
        obtain ⟨lo, lc, hle_, hlrow, _⟩ := hO.out.row
        subst hle_
        rw [List.length_map] at hlrow
        rw [List.length_map]
        obtain ⟨ll, hlll⟩ : ∃ ll, ll = l.length := ⟨_, rfl⟩
        rw [← hlll] at hlrow hll ⊢
        have HLL := hid hlll
        clear hlll hO
        have HR2 : Hid (RisM wr d s) := HR1.out.below hB.out
        have HRN := hid (HNN.out.below hB.out)
        have HRS := hid (HSS.out.below hB.out)
        have HRL := hid hlrow
        have HBP : Hid (Below d.pb w1 wr) := hB.out.mono (Nat.le_of_lt (by obtain ⟨_, _, _, _, _, _, _, hq, _⟩ := HR1.out.box; exact hq.lt))
        clear hlrow hB HR1 HNN HSS
        cases kd with
        | false =>
          go_wp2
          clear e1 bl2
          go_loopg [10] ll (fun gg ix wr => ∃ (k : Nat) (t : RV), gg = ll - k ∧ k ≤ ll ∧ ix = .int .i64 k ∧ Hid (RisM wr d t) ∧ Hid (t.tl = s.tl ∧ t.gl = s.gl ∧ t.q = s.q) ∧ t.hl.length = d.us.length ∧ t.sl.length = d.us.length ∧ Hid (∀ j, j < d.us.length → bn t.sl j = if j ∈ l.take k then false else bn s.sl j) ∧ Hid (∀ j, j < d.us.length → nn t.hl j = if j ∈ l.take k then d.a.C j * s.q else nn s.hl j) ∧ Hid (Row wr no nm nc (limbs N)) ∧ Hid (Row wr so sm sc (limbs S)) ∧ Hid (Row wr lo ll lc (l.map (fun (n : Nat) => (n : Int)))) ∧ Hid (Below d.pb w1 wr))
          case atStart => exact ⟨0, s, rfl, Nat.zero_le _, rfl, HR2.out, ⟨rfl, rfl, rfl⟩, HS.out.hl, HS.out.sl, fun j hj => by rw [List.take_zero, if_neg (List.not_mem_nil)], fun j hj => by rw [List.take_zero, if_neg (List.not_mem_nil)], HRN.out, HRS.out, HRL.out, HBP.out⟩
          case round =>
            obtain ⟨k, t, hgk, hk, rfl, HT, HTE, hth, hts, HTS, HTV, HRN, HRS, HRL, HBP⟩ := hrel
            by_cases hkl : k < ll
            · have hkl2 : (k : Int) < (ll : Int) := by omega
              obtain ⟨x, hx⟩ : ∃ x, l[k]? = some x := ⟨l[k]'(by have := HLL.out; omega), List.getElem?_eq_getElem _⟩
              have hxn : x < d.us.length := ((hM.out x).1 (List.mem_of_getElem? hx)).1
              have hxi : (x : Int) < (d.us.length : Int) := by omega
              obtain ⟨lb, lof, hlo, hlb⟩ := HRL.out.head (by omega)
              have cl := HRL.out.cell lb lof hlo k hkl
              rw [lm_map hx] at cl
              have HTK := hid (fun j => mem_take_succ (j := j) hx)
              clear hx
              obtain ⟨vt2, vg2, vh2, vs2, qo2, qn2, qc2, hbx2, hot2, hog2, hoh2, hos2, hoq2, hlt2_⟩ := (HT.out).box
              have bl2 := hbx2.lt
              have e5 : wr.cell? ⟨d.pb, 5, none⟩ = some vs2 := hbx2.cell 5 _ rfl
              obtain ⟨so2, sc2, rfl⟩ := hos2.shape
              rw [hts] at hos2 e5
              obtain ⟨sb, rfl, hsb, _, _⟩ := hos2.get (i := x) (by omega)
              clear hbx2 hot2 hog2 hoh2 hos2 hoq2 hlt2_
              obtain ⟨_, hpsb, ⟨y5, cy5⟩, z5, hT5, hR5⟩ := HT.out.setStillAt (i := x) (by omega) false e5
              subst hlo
              have HT5 := hid hT5
              have HRV := hid hR5
              clear hT5 hR5
              go_upto_region 25 with fail
              have HNV := hid (HRN.out.touch HT5.out (by decide))
              have HSV := hid (HRS.out.touch HT5.out (by decide))
              have HLV := hid (HRL.out.touch HT5.out (by decide))
              have HBV : Hid (Below d.pb w1 (wr.setCell ⟨sb, x, none⟩ (.bool false))) := HBP.out.setCell (by show d.pb ≤ sb; omega) _
              clear HT HRN HRS HRL HBP HT5 cl e5 cy5 z5 hlb hsb bl2
              obtain ⟨V, hV⟩ : ∃ V, V = wr.setCell ⟨sb, x, none⟩ (.bool false) := ⟨_, rfl⟩
              rw [← hV] at HRV HNV HSV HLV HBV ⊢
              clear hV
              obtain ⟨vt3, vg3, vh3, vs3, qo3, qn3, qc3, hbx3, hot3, hog3, hoh3, hos3, hoq3, hlt3_⟩ := (HRV.out).box
              have bl3 := hbx3.lt
              have e4 : V.cell? ⟨d.pb, 4, none⟩ = some vh3 := hbx3.cell 4 _ rfl
              obtain ⟨hoo, hcc, rfl⟩ := hoh3.shape
              obtain ⟨hb_, _, _, _, rfl, hhb, _, _, _⟩ := hoh3.get (i := x) (by show x < t.hl.length; omega)
              have hth2 : t.hl.length = d.us.length := hth
              have e4b : V.cell? ⟨d.pb, 4, none⟩ = some (.slice (some ⟨hb_, 0, none⟩) d.us.length hcc) := by rw [← hth]; exact e4
              clear e4
              have e6 : V.cell? ⟨d.pb, 6, none⟩ = some (.slice qo3 qn3 qc3) := hbx3.cell 6 _ rfl
              have e1 : V.cell? ⟨d.pb, 1, none⟩ = some (.slice d.ao d.us.length d.cap) := hbx3.cell 1 _ rfl
              have HQ : Hid (Row V qo3 qn3 qc3 (limbs s.q)) := by rw [← HTE.out.2.2]; exact hoq3
              have lq := HQ.out.len
              have lq2 := HS.out.q
              clear hbx3 hot3 hog3 hoh3 hos3 hoq3 hlt3_
              obtain ⟨ub, uo, da, dn, dc, hao, hbl, a0, a1, a2, hd⟩ := HRV.out.users.get hxn
              rw [hao] at e1
              clear a0 a1 hd
              obtain ⟨M, hM1, hM3⟩ : ∃ M : Nat, (ug d.us x).cap = (M : Int) ∧ M = d.a.C x := ⟨_, d.C_eq HO.out hxn, rfl⟩
              rw [hM1] at a2
              have hM2 : M ≤ 10000 := by rw [hM3]; have := d.C_le HO.out hxn; omega
              have HMD := hid hM3
              have hbh : ub ≠ hb_ := by
                have h8 := HRV.out.low
                obtain ⟨ub9, uo9, _, _, _, hao9, hbl9, _⟩ := HRV.out.u0.get hxn
                rw [hao] at hao9
                cases hao9
                have h9 : d.pb < hb_ := (HRV.out.setHaveAt (i := x) (x := 0) (by show x < t.hl.length; omega) (ao := none) (k := 0) (cap := 0) (by rw [limbs_zero]; exact Row.nil V) e4b).2.1
                omega
              clear hM1 hM3 hao
              have SK : Hid (∀ U, Below V.heap.size V U → U.cell? ⟨d.pb, 1, none⟩ = some (.slice (some ⟨ub, uo, none⟩) d.us.length d.cap) ∧ U.cell? ⟨d.pb, 6, none⟩ = some (.slice qo3 qn3 qc3) ∧ U.cell? ⟨d.pb, 4, none⟩ = some (.slice (some ⟨hb_, 0, none⟩) d.us.length hcc) ∧ U.cell? ⟨ub, uo + x * 3 + 2, none⟩ = some (.int .i64 (M : Int))) := fun U h => ⟨(h.cell (p := ⟨d.pb, 1, none⟩) bl3).trans e1, (h.cell (p := ⟨d.pb, 6, none⟩) bl3).trans e6, (h.cell (p := ⟨d.pb, 4, none⟩) bl3).trans e4b, (h.cell (p := ⟨ub, uo + x * 3 + 2, none⟩) hbl).trans a2⟩
              have de1 : V.drew.cell? ⟨d.pb, 1, none⟩ = some (.slice (some ⟨ub, uo, none⟩) d.us.length d.cap) := ((Below.refl V.heap.size V).drew.cell (p := ⟨d.pb, 1, none⟩) bl3).trans e1
              have de6 : V.drew.cell? ⟨d.pb, 6, none⟩ = some (.slice qo3 qn3 qc3) := ((Below.refl V.heap.size V).drew.cell (p := ⟨d.pb, 6, none⟩) bl3).trans e6
              have de4b : V.drew.cell? ⟨d.pb, 4, none⟩ = some (.slice (some ⟨hb_, 0, none⟩) d.us.length hcc) := ((Below.refl V.heap.size V).drew.cell (p := ⟨d.pb, 4, none⟩) bl3).trans e4b
              have da2 : V.drew.cell? ⟨ub, uo + x * 3 + 2, none⟩ = some (.int .i64 (M : Int)) := ((Below.refl V.heap.size V).drew.cell (p := ⟨ub, uo + x * 3 + 2, none⟩) hbl).trans a2
              go_region_held3 (fun w' => w'.cell? ⟨d.pb, 1, none⟩ = some (.slice (some ⟨ub, uo, none⟩) d.us.length d.cap) ∧ w'.cell? ⟨d.pb, 6, none⟩ = some (.slice qo3 qn3 qc3) ∧ w'.cell? ⟨d.pb, 4, none⟩ = some (.slice (some ⟨hb_, 0, none⟩) d.us.length hcc) ∧ w'.cell? ⟨ub, uo + x * 3 + 2, none⟩ = some (.int .i64 (M : Int))) (first | exact SK.out _ (Below.refl _ _).drew | exact SK.out _ hv81g0 | exact SK.out _ hv81g1 | exact ⟨(cell_set_ne (by omega)).trans (SK.out _ hv81g1).1, (cell_set_ne (by omega)).trans (SK.out _ hv81g1).2.1, (cell_set_ne (by omega)).trans (SK.out _ hv81g1).2.2.1, (cell_set_ne hbh).trans (SK.out _ hv81g1).2.2.2⟩)
                (first | (go_at_call 37; refine (ptimes_any wo qo3 wn wc qn3 qc3 M s.q _ HWR.out (HQ.out.below hv81g0) (by omega) (by omega)).mono ?_; rintro e81g1 w81g1 ⟨v2, rfl, ⟨po, pn, pc, rfl, hpr, _⟩, hb81g1⟩; have hv81g1 : Below V.heap.size V w81g1 := hv81g0.trans (hb81g1.mono (hv81g0).size); clear hb81g1; have HPR := hid hpr; rw [HMD.out] at HPR; clear hpr; obtain ⟨hA1, hA2, ⟨y4, hA3⟩, hA4, hA5, hA6⟩ := (HRV.out.below hv81g1).setHaveAt (i := x) (x := d.a.C x * s.q) (by show x < t.hl.length; omega) HPR.out (((hv81g1).cell (p := ⟨d.pb, 4, none⟩) bl3).trans e4b); have HA5 := hid hA5; have HA6 := hid hA6; clear hA5 hA6) | (go_at_call 35; refine (pwhole_any M _ (by omega)).mono ?_; rintro e81g0 w81g0 ⟨v1, rfl, ⟨wo, wn, wc, rfl, hwr, _⟩, hb81g0⟩; have hv81g0 : Below V.heap.size V w81g0 := (Below.refl V.heap.size V).drew.trans (hb81g0.mono ((Below.refl V.heap.size V).drew).size); clear hb81g0; have lw : wn ≤ 2 := (by rw [← hwr.len]; exact len_sml hM2); have HWR := hid hwr; clear hwr))
              clear SK de1 de6 de4b da2
              have Rn_82 := hid (HNV.out.below hv81g1)
              have Rs_82 := hid (HSV.out.below hv81g1)
              have Rl_82 := hid (HLV.out.below hv81g1)
              have Rr_82 := hid (HRV.out.below hv81g1)
              have HB_82 : Hid (Below (d.pb) w1 w81g1) := HBV.out.trans (hv81g1.mono (Nat.le_of_lt bl3))
              clear HNV HSV HLV HRV HBV
              go_wp2
              go_roundg (ll - (k + 1))
              case measure => omega
              case rel =>
                refine ⟨k + 1, { t with sl := t.sl.set x false, hl := t.hl.set x (d.a.C x * s.q) }, rfl, by omega, by go_num, HA6.out, HTE.out, by simpa using hth, by simpa using hts, ?_, ?_, Rn_82.out.touch HA5.out (by decide), Rs_82.out.touch HA5.out (by decide), Rl_82.out.touch HA5.out (by decide), HB_82.out.setCell (by show d.pb ≤ hb_; omega) _⟩
                · exact fun j hj => by
                    show bn (t.sl.set x false) j = _
                    rw [bn_set (by omega)]
                    by_cases e : j = x
                    · rw [if_pos e, if_pos ((HTK.out j).2 (Or.inr e))]
                    · rw [if_neg e, HTS.out j hj]
                      by_cases e2 : j ∈ l.take k
                      · rw [if_pos e2, if_pos ((HTK.out j).2 (Or.inl e2))]
                      · rw [if_neg e2, if_neg (fun h5 => ((HTK.out j).1 h5).elim e2 e)]
                · exact fun j hj => by
                    show nn (t.hl.set x (d.a.C x * s.q)) j = _
                    rw [nn_set (by omega)]
                    by_cases e : j = x
                    · rw [if_pos e, if_pos ((HTK.out j).2 (Or.inr e)), e]
                    · rw [if_neg e, HTV.out j hj]
                      by_cases e2 : j ∈ l.take k
                      · rw [if_pos e2, if_pos ((HTK.out j).2 (Or.inl e2))]
                      · rw [if_neg e2, if_neg (fun h5 => ((HTK.out j).1 h5).elim e2 e)]
            · obtain rfl : k = ll := by omega
              have HTT : Hid (TurnT d.a (nn s.gl) s.R t.R) := by
                refine turn_of HX.out hM.out ?_ (fun j hj => ?_) (fun j hj => ?_)
                · rw [HTE.out.2.2]; rfl
                · rw [HTS.out j hj, HLL.out, List.take_length]
                · rw [HTV.out j hj, HLL.out, List.take_length, HTE.out.2.2]; rfl
              go_wp2
              go_ret
              exact Or.inr ⟨by rw [HX.out]; exact HS0.out, by rw [HX.out]; exact HSL.out, rfl, t, HT.out, HTE.out.1, HTE.out.2.1, hth, hts, HTT.out, (HB1.out.mono HPB.out).trans HBP.out⟩
        | true =>
          go_wp2
          clear e1 bl2
          go_loopg [9] d.us.length (fun gg ix wr => ∃ (i : Nat) (t : RV), gg = d.us.length - i ∧ i ≤ d.us.length ∧ ix = .int .i64 i ∧ Hid (RisM wr d t) ∧ Hid (t.tl = s.tl ∧ t.gl = s.gl ∧ t.q = s.q ∧ t.sl = s.sl) ∧ t.hl.length = d.us.length ∧ Hid (∀ j, j < d.us.length → nn t.hl j = if j < i then nn s.hl j * S else nn s.hl j) ∧ Hid (Row wr no nm nc (limbs N)) ∧ Hid (Row wr so sm sc (limbs S)) ∧ Hid (Row wr lo ll lc (l.map (fun (n : Nat) => (n : Int)))) ∧ Hid (Below d.pb w1 wr))
          case atStart => exact ⟨0, s, rfl, Nat.zero_le _, rfl, HR2.out, ⟨rfl, rfl, rfl, rfl⟩, HS.out.hl, fun j hj => by rw [if_neg (Nat.not_lt_zero j)], HRN.out, HRS.out, HRL.out, HBP.out⟩
          case round =>
            clear HR2 HRN HRS HRL HBP
            obtain ⟨i, t, hgi, hi, rfl, HT, HTE, hth, HTV, HRN, HRS, HRL, HBP⟩ := hrel
            obtain ⟨vt2, vg2, vh2, vs2, qo2, qn2, qc2, hbx2, hot2, hog2, hoh2, hos2, hoq2, hlt2_⟩ := (HT.out).box
            have bl2 := hbx2.lt
            have e1 : wr.cell? ⟨d.pb, 1, none⟩ = some (.slice d.ao d.us.length d.cap) := hbx2.cell 1 _ rfl
            by_cases hit : i < d.us.length
            · have hin : (i : Int) < (d.us.length : Int) := by omega
              have e4 : wr.cell? ⟨d.pb, 4, none⟩ = some vh2 := hbx2.cell 4 _ rfl
              obtain ⟨hoo, hcc, rfl⟩ := hoh2.shape
              obtain ⟨hb_, ha, hk_, hcap, rfl, hhb, ch, _, hrow⟩ := hoh2.get (i := i) (by omega)
              rw [Nat.zero_add] at ch
              rw [hth] at e4
              have hnv : nn t.hl i = nn s.hl i := by rw [HTV.out i hit, if_neg (Nat.lt_irrefl _)]
              rw [hnv] at hrow
              have HH := hid hrow
              have lh := hrow.len
              have lh2 := HS.out.hs i hit
              clear hrow hnv hbx2 hot2 hog2 hoh2 hos2 hoq2 hlt2_
              go_upto_region 16 with fail
              have de4 := ((Below.refl wr.heap.size wr).drew.cell (p := ⟨d.pb, 4, none⟩) bl2).trans e4
              have dch := ((Below.refl wr.heap.size wr).drew.cell (p := ⟨hb_, i, none⟩) hhb).trans ch
              go_region_law (first | (go_simp; go_at_call 37; refine (ptimes_any ha so hk_ hcap sm sc (nn s.hl i) S _ (HH.out.below (Below.refl wr.heap.size wr).drew) (HRS.out.below (Below.refl wr.heap.size wr).drew) (by omega) (by omega)).mono ?_; rintro e81g0 w81g0 ⟨v2, rfl, ⟨po, pn, pc, rfl, hpr, _⟩, hb81g0⟩; have hv81g0 : Below wr.heap.size wr w81g0 := (Below.refl wr.heap.size wr).drew.trans (hb81g0.mono ((Below.refl wr.heap.size wr).drew).size); clear hb81g0; have HPR := hid hpr; clear hpr; obtain ⟨hA1, hA2, ⟨y4, hA3⟩, hA4, hA5, hA6⟩ := (HT.out.below hv81g0).setHaveAt (i := i) (x := nn s.hl i * S) (by omega) HPR.out (((hv81g0).cell (p := ⟨d.pb, 4, none⟩) bl2).trans e4); have HA5 := hid hA5; have HA6 := hid hA6; have c4b := ((hv81g0).cell (p := ⟨d.pb, 4, none⟩) bl2).trans e4; clear hA5 hA6; go_wp2_with fail))
              all_goals
                go_wp2
                go_roundg (d.us.length - (i + 1))
                case measure => omega
                case rel =>
                  refine ⟨i + 1, { t with hl := t.hl.set i (nn s.hl i * S) }, rfl, by omega, by go_num, HA6.out, HTE.out, by simpa using hth, fun j hj => ?_, (HRN.out.below hv81g0).touch HA5.out (by decide), (HRS.out.below hv81g0).touch HA5.out (by decide), (HRL.out.below hv81g0).touch HA5.out (by decide), (HBP.out.trans (hv81g0.mono (Nat.le_of_lt bl2))).setCell (by show d.pb ≤ hb_; omega) _⟩
                  show nn (t.hl.set i (nn s.hl i * S)) j = _
                  rw [nn_set (by omega)]
                  by_cases e : j = i
                  · subst e; rw [if_pos rfl, if_pos (by omega)]
                  · rw [if_neg e, HTV.out j hj]
                    by_cases e2 : j < i
                    · rw [if_pos e2, if_pos (by omega)]
                    · rw [if_neg e2, if_neg (by omega)]
            · obtain rfl : i = d.us.length := by omega
              have e6 : wr.cell? ⟨d.pb, 6, none⟩ = some (.slice qo2 qn2 qc2) := hbx2.cell 6 _ rfl
              have HQ : Hid (Row wr qo2 qn2 qc2 (limbs s.q)) := by rw [← HTE.out.2.2.1]; exact hoq2
              have lq := HQ.out.len
              have lq2 := HS.out.q
              have z6 : ∀ U, Below wr.heap.size wr U → U.frozen? ⟨d.pb, 6, none⟩ = false := fun U h => (hbx2.below h hbx2.lt).frozen 6
              have HZ6 := hid z6
              clear z6 hbx2 hot2 hog2 hoh2 hos2 hoq2 hlt2_
              go_wp2_with fail
              refine (ptimes_any qo2 so qn2 qc2 sm sc s.q S _ HQ.out HRS.out (by omega) (by omega)).mono ?_
              rintro e17 w17 ⟨v17, rfl, ⟨po, pn, pc, rfl, hpr, _⟩, hb17⟩
              have HPR := hid hpr
              clear hpr
              have Rn_91 := hid (HRN.out.below hb17)
              have Rs_91 := hid (HRS.out.below hb17)
              have Rl_91 := hid (HRL.out.below hb17)
              have Rr_91 := hid (HT.out.below hb17)
              have HB_91 : Hid (Below (d.pb) w1 w17) := HBP.out.trans (hb17.mono (Nat.le_of_lt bl2))
              clear HRN HRS HRL HT HBP
              have c6 := (hb17.cell (p := ⟨d.pb, 6, none⟩) bl2).trans e6
              have z6 := HZ6.out _ hb17
              have l6 := Nat.lt_of_lt_of_le bl2 hb17.size
              obtain ⟨hA6, hA5⟩ := Rr_91.out.setQ (x := s.q * S) HPR.out
              have HA5 := hid hA5
              have HA6 := hid hA6
              clear hA5 hA6 hb17
              go_wp2
              have HRN2 := hid (Rn_91.out.touch HA5.out (by decide))
              have HRS2 := hid (Rs_91.out.touch HA5.out (by decide))
              have HRL2 := hid (Rl_91.out.touch HA5.out (by decide))
              have HBP2 : Hid (Below d.pb w1 (w17.setCell ⟨d.pb, 6, none⟩ (.slice po pn pc))) := HB_91.out.setCell (Nat.le_refl _) _
              clear Rn_91 Rs_91 Rl_91 Rr_91 HB_91 c6 z6 l6 e6 e1 HQ HPR HZ6 HA5
              obtain ⟨V2, hV2⟩ : ∃ V2, V2 = w17.setCell ⟨d.pb, 6, none⟩ (.slice po pn pc) := ⟨_, rfl⟩
              rw [← hV2] at HRN2 HRS2 HRL2 HBP2 HA6 ⊢
              clear hV2
              go_loopg [10] ll (fun gg ix wr => ∃ (k : Nat) (t : RV), gg = ll - k ∧ k ≤ ll ∧ ix = .int .i64 k ∧ Hid (RisM wr d t) ∧ Hid (t.tl = s.tl ∧ t.gl = s.gl ∧ t.q = s.q * S) ∧ t.hl.length = d.us.length ∧ t.sl.length = d.us.length ∧ Hid (∀ j, j < d.us.length → bn t.sl j = if j ∈ l.take k then false else bn s.sl j) ∧ Hid (∀ j, j < d.us.length → nn t.hl j = if j ∈ l.take k then N * nn s.gl j else nn s.hl j * S) ∧ Hid (Row wr no nm nc (limbs N)) ∧ Hid (Row wr so sm sc (limbs S)) ∧ Hid (Row wr lo ll lc (l.map (fun (n : Nat) => (n : Int)))) ∧ Hid (Below d.pb w1 wr))
              case atStart => exact ⟨0, { t with q := s.q * S }, rfl, Nat.zero_le _, rfl, HA6.out, ⟨HTE.out.1, HTE.out.2.1, rfl⟩, hth, (by show t.sl.length = _; rw [HTE.out.2.2.2]; exact HS.out.sl), fun j hj => (by rw [List.take_zero, if_neg (List.not_mem_nil)]; show bn t.sl j = _; rw [HTE.out.2.2.2]), fun j hj => (by rw [List.take_zero, if_neg (List.not_mem_nil)]; show nn t.hl j = _; rw [HTV.out j hj, if_pos hj]), HRN2.out, HRS2.out, HRL2.out, HBP2.out⟩
              case round =>
                obtain ⟨k, t, hgk, hk, rfl, HT, HTE, hth, hts, HTS, HTV, HRN, HRS, HRL, HBP⟩ := hrel
                by_cases hkl : k < ll
                · have hkl2 : (k : Int) < (ll : Int) := by omega
                  obtain ⟨x, hx⟩ : ∃ x, l[k]? = some x := ⟨l[k]'(by have := HLL.out; omega), List.getElem?_eq_getElem _⟩
                  have hxn : x < d.us.length := ((hM.out x).1 (List.mem_of_getElem? hx)).1
                  have hxi : (x : Int) < (d.us.length : Int) := by omega
                  obtain ⟨lb, lof, hlo, hlb⟩ := HRL.out.head (by omega)
                  have cl := HRL.out.cell lb lof hlo k hkl
                  rw [lm_map hx] at cl
                  have HTK := hid (fun j => mem_take_succ (j := j) hx)
                  clear hx
                  obtain ⟨vt2, vg2, vh2, vs2, qo2, qn2, qc2, hbx2, hot2, hog2, hoh2, hos2, hoq2, hlt2_⟩ := (HT.out).box
                  have bl2 := hbx2.lt
                  have e5 : wr.cell? ⟨d.pb, 5, none⟩ = some vs2 := hbx2.cell 5 _ rfl
                  obtain ⟨so2, sc2, rfl⟩ := hos2.shape
                  rw [hts] at hos2 e5
                  obtain ⟨sb, rfl, hsb, _, _⟩ := hos2.get (i := x) (by omega)
                  clear hbx2 hot2 hog2 hoh2 hos2 hoq2 hlt2_
                  obtain ⟨_, hpsb, ⟨y5, cy5⟩, z5, hT5, hR5⟩ := HT.out.setStillAt (i := x) (by omega) false e5
                  subst hlo
                  have HT5 := hid hT5
                  have HRV := hid hR5
                  clear hT5 hR5
                  go_upto_region 24 with fail
                  have HNV := hid (HRN.out.touch HT5.out (by decide))
                  have HSV := hid (HRS.out.touch HT5.out (by decide))
                  have HLV := hid (HRL.out.touch HT5.out (by decide))
                  have HBV : Hid (Below d.pb w1 (wr.setCell ⟨sb, x, none⟩ (.bool false))) := HBP.out.setCell (by show d.pb ≤ sb; omega) _
                  clear HT HRN HRS HRL HBP HT5 cl e5 cy5 z5 hlb hsb bl2
                  obtain ⟨V, hV⟩ : ∃ V, V = wr.setCell ⟨sb, x, none⟩ (.bool false) := ⟨_, rfl⟩
                  rw [← hV] at HRV HNV HSV HLV HBV ⊢
                  clear hV
                  obtain ⟨vt3, vg3, vh3, vs3, qo3, qn3, qc3, hbx3, hot3, hog3, hoh3, hos3, hoq3, hlt3_⟩ := (HRV.out).box
                  have bl3 := hbx3.lt
                  have e4 : V.cell? ⟨d.pb, 4, none⟩ = some vh3 := hbx3.cell 4 _ rfl
                  obtain ⟨hoo, hcc, rfl⟩ := hoh3.shape
                  obtain ⟨hb_, _, _, _, rfl, hhb, _, _, _⟩ := hoh3.get (i := x) (by show x < t.hl.length; omega)
                  have hth2 : t.hl.length = d.us.length := hth
                  have e4b : V.cell? ⟨d.pb, 4, none⟩ = some (.slice (some ⟨hb_, 0, none⟩) d.us.length hcc) := by rw [← hth]; exact e4
                  clear e4
                  have e3 : V.cell? ⟨d.pb, 3, none⟩ = some vg3 := hbx3.cell 3 _ rfl
                  have hgl : t.gl.length = d.us.length := by rw [HTE.out.2.1]; exact HS.out.gl
                  obtain ⟨goo, gcc, rfl⟩ := hog3.shape
                  obtain ⟨gb, ga, gk, gcap, rfl, hgb, cg, _, hgrow⟩ := hog3.get (i := x) (by show x < t.gl.length; omega)
                  rw [Nat.zero_add] at cg
                  have e3b : V.cell? ⟨d.pb, 3, none⟩ = some (.slice (some ⟨gb, 0, none⟩) d.us.length gcc) := by rw [← hgl]; exact e3
                  have HG : Hid (Row V ga gk gcap (limbs (nn s.gl x))) := by rw [← HTE.out.2.1]; exact hgrow
                  have lg : gk ≤ 8 := by rw [← HG.out.len]; exact HS.out.gs x hxn
                  have hgh : gb ≠ hb_ := by have h8 := hog3.at.1; have h9 := hlt3_ hb_ _ _ rfl; omega
                  clear hgrow e3 hbx3 hot3 hog3 hoh3 hos3 hoq3 hlt3_
                  have SK : Hid (∀ U, Below V.heap.size V U → U.cell? ⟨d.pb, 3, none⟩ = some (.slice (some ⟨gb, 0, none⟩) d.us.length gcc) ∧ U.cell? ⟨d.pb, 4, none⟩ = some (.slice (some ⟨hb_, 0, none⟩) d.us.length hcc) ∧ U.cell? ⟨gb, x, none⟩ = some (.slice ga gk gcap)) := fun U h => ⟨(h.cell (p := ⟨d.pb, 3, none⟩) bl3).trans e3b, (h.cell (p := ⟨d.pb, 4, none⟩) bl3).trans e4b, (h.cell (p := ⟨gb, x, none⟩) hgb).trans cg⟩
                  have de3b : V.drew.cell? ⟨d.pb, 3, none⟩ = some (.slice (some ⟨gb, 0, none⟩) d.us.length gcc) := ((Below.refl V.heap.size V).drew.cell (p := ⟨d.pb, 3, none⟩) bl3).trans e3b
                  have de4b : V.drew.cell? ⟨d.pb, 4, none⟩ = some (.slice (some ⟨hb_, 0, none⟩) d.us.length hcc) := ((Below.refl V.heap.size V).drew.cell (p := ⟨d.pb, 4, none⟩) bl3).trans e4b
                  have dcg : V.drew.cell? ⟨gb, x, none⟩ = some (.slice ga gk gcap) := ((Below.refl V.heap.size V).drew.cell (p := ⟨gb, x, none⟩) hgb).trans cg
                  go_region_held3 (fun w' => w'.cell? ⟨d.pb, 3, none⟩ = some (.slice (some ⟨gb, 0, none⟩) d.us.length gcc) ∧ w'.cell? ⟨d.pb, 4, none⟩ = some (.slice (some ⟨hb_, 0, none⟩) d.us.length hcc) ∧ w'.cell? ⟨gb, x, none⟩ = some (.slice ga gk gcap)) (first | exact SK.out _ (Below.refl _ _).drew | exact SK.out _ hv81g0 | exact ⟨(cell_set_ne (by omega)).trans (SK.out _ hv81g0).1, (cell_set_ne (by omega)).trans (SK.out _ hv81g0).2.1, (cell_set_ne hgh).trans (SK.out _ hv81g0).2.2⟩)
                    (first | (go_at_call 37; refine (ptimes_any no ga nm nc gk gcap N (nn s.gl x) _ (HNV.out.below (Below.refl V.heap.size V).drew) (HG.out.below (Below.refl V.heap.size V).drew) (by omega) (by omega)).mono ?_; rintro e81g0 w81g0 ⟨v2, rfl, ⟨po, pn, pc, rfl, hpr, _⟩, hb81g0⟩; have hv81g0 : Below V.heap.size V w81g0 := (Below.refl V.heap.size V).drew.trans (hb81g0.mono ((Below.refl V.heap.size V).drew).size); clear hb81g0; have HPR := hid hpr; clear hpr; obtain ⟨hA1, hA2, ⟨y4, hA3⟩, hA4, hA5, hA6⟩ := (HRV.out.below hv81g0).setHaveAt (i := x) (x := N * nn s.gl x) (by show x < t.hl.length; omega) HPR.out (((hv81g0).cell (p := ⟨d.pb, 4, none⟩) bl3).trans e4b); have HA5 := hid hA5; have HA6 := hid hA6; clear hA5 hA6))
                  clear SK de3b de4b dcg
                  have Rn_82 := hid (HNV.out.below hv81g0)
                  have Rs_82 := hid (HSV.out.below hv81g0)
                  have Rl_82 := hid (HLV.out.below hv81g0)
                  have Rr_82 := hid (HRV.out.below hv81g0)
                  have HB_82 : Hid (Below (d.pb) w1 w81g0) := HBV.out.trans (hv81g0.mono (Nat.le_of_lt bl3))
                  clear HNV HSV HLV HRV HBV
                  go_wp2
                  go_roundg (ll - (k + 1))
                  case measure => omega
                  case rel =>
                    refine ⟨k + 1, { t with sl := t.sl.set x false, hl := t.hl.set x (N * nn s.gl x) }, rfl, by omega, by go_num, HA6.out, HTE.out, by simpa using hth, by simpa using hts, ?_, ?_, Rn_82.out.touch HA5.out (by decide), Rs_82.out.touch HA5.out (by decide), Rl_82.out.touch HA5.out (by decide), HB_82.out.setCell (by show d.pb ≤ hb_; omega) _⟩
                    · exact fun j hj => by
                        show bn (t.sl.set x false) j = _
                        rw [bn_set (by omega)]
                        by_cases e : j = x
                        · rw [if_pos e, if_pos ((HTK.out j).2 (Or.inr e))]
                        · rw [if_neg e, HTS.out j hj]
                          by_cases e2 : j ∈ l.take k
                          · rw [if_pos e2, if_pos ((HTK.out j).2 (Or.inl e2))]
                          · rw [if_neg e2, if_neg (fun h5 => ((HTK.out j).1 h5).elim e2 e)]
                    · exact fun j hj => by
                        show nn (t.hl.set x (N * nn s.gl x)) j = _
                        rw [nn_set (by omega)]
                        by_cases e : j = x
                        · rw [if_pos e, if_pos ((HTK.out j).2 (Or.inr e)), e]
                        · rw [if_neg e, HTV.out j hj]
                          by_cases e2 : j ∈ l.take k
                          · rw [if_pos e2, if_pos ((HTK.out j).2 (Or.inl e2))]
                          · rw [if_neg e2, if_neg (fun h5 => ((HTK.out j).1 h5).elim e2 e)]
                · obtain rfl : k = ll := by omega
                  have HTT : Hid (TurnT d.a (nn s.gl) s.R t.R) := by
                    refine turn_of HX.out hM.out ?_ (fun j hj => ?_) (fun j hj => ?_)
                    · rw [HTE.out.2.2]; rfl
                    · rw [HTS.out j hj, HLL.out, List.take_length]
                    · rw [HTV.out j hj, HLL.out, List.take_length, HTE.out.2.2]; rfl
                  go_wp2
                  go_ret
                  exact Or.inr ⟨by rw [HX.out]; exact HS0.out, by rw [HX.out]; exact HSL.out, rfl, t, HT.out, HTE.out.1, HTE.out.2.1, hth, hts, HTT.out, (HB1.out.mono HPB.out).trans HBP.out⟩

end Go.Proofs.YtigokanoflkinaaGreatDoor
