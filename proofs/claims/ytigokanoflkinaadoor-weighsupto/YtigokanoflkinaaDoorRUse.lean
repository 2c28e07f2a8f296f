/- portionref Useful. (Laid by mkpuse.py.) -/
import Derived.Test.YtigokanoflkinaaDoorRFea
import Derived.Test.YtigokanoflkinaaDoorWUse
import Derived.Test.YtigokanoflkinaaDoorFBrg
namespace Go.Proofs.YtigokanoflkinaaDoor
set_option linter.unusedSimpArgs false
set_option linter.unusedVariables false
open Go.RowKit Por

/-- the least, of the cap and of the first k kinds -/
structure LeastK (u : Usr) (f : Nat → Rat) (k : Nat) (b : Rat) : Prop where
  cap : b ≤ ((u.cap : Int) : Rat)
  le : ∀ r, r < k → lm u.dem r ≠ 0 → b ≤ f r / ((lm u.dem r : Int) : Rat)
  is : b = ((u.cap : Int) : Rat) ∨ ∃ r, r < k ∧ lm u.dem r ≠ 0 ∧ b = f r / ((lm u.dem r : Int) : Rat)
theorem LeastK.zero (u : Usr) (f : Nat → Rat) : LeastK u f 0 ((u.cap : Int) : Rat) := ⟨Rat.le_refl, fun r h => by omega, .inl rfl⟩
theorem LeastK.skip {u : Usr} {f : Nat → Rat} {k : Nat} {b : Rat} (h : LeastK u f k b) (hd : lm u.dem k = 0) : LeastK u f (k + 1) b := by
  refine ⟨h.cap, fun r hr hd2 => ?_, ?_⟩
  · by_cases e : r = k
    · subst e; exact absurd hd hd2
    · exact h.le r (by omega) hd2
  · rcases h.is with h1 | ⟨r, h1, h2⟩
    · exact .inl h1
    · exact .inr ⟨r, by omega, h2⟩
theorem LeastK.keep {u : Usr} {f : Nat → Rat} {k : Nat} {b : Rat} (h : LeastK u f k b) (hle : b ≤ f k / ((lm u.dem k : Int) : Rat)) : LeastK u f (k + 1) b := by
  refine ⟨h.cap, fun r hr hd2 => ?_, ?_⟩
  · by_cases e : r = k
    · subst e; exact hle
    · exact h.le r (by omega) hd2
  · rcases h.is with h1 | ⟨r, h1, h2⟩
    · exact .inl h1
    · exact .inr ⟨r, by omega, h2⟩
theorem LeastK.turn {u : Usr} {f : Nat → Rat} {k : Nat} {b : Rat} (h : LeastK u f k b) (hd : lm u.dem k ≠ 0) (hlt : f k / ((lm u.dem k : Int) : Rat) < b) : LeastK u f (k + 1) (f k / ((lm u.dem k : Int) : Rat)) := by
  refine ⟨Rat.le_trans (Rat.le_of_lt hlt) h.cap, fun r hr hd2 => ?_, .inr ⟨k, by omega, hd, rfl⟩⟩
  by_cases e : r = k
  · subst e; exact Rat.le_refl
  · exact Rat.le_trans (Rat.le_of_lt hlt) (h.le r (by omega) hd2)
theorem LeastK.use {u : Usr} {f : Nat → Rat} {k : Nat} {b : Rat} (h : LeastK u f k b) : useQ u f k = b := by
  unfold useQ
  refine Rat.le_antisymm ?_ ?_
  · refine leastL_le ?_
    rw [List.mem_append]
    rcases h.is with h1 | ⟨r, h1, h2, h3⟩
    · right; rw [h1]; simp
    · left; rw [h3]; exact (mem_enL k).2 ⟨r, h1, h2, rfl⟩
  · have hm := leastL_mem (l := enL f u.dem k ++ [((u.cap : Int) : Rat)]) (by simp)
    rcases List.mem_append.1 hm with h1 | h1
    · obtain ⟨r, hr, hz, e⟩ := (mem_enL k).1 h1
      rw [e]; exact h.le r hr hz
    · rw [List.mem_singleton] at h1
      rw [h1]; exact h.cap
theorem use_list {u : Usr} {ss : List ByteArray} (h : ss.length < 1 ∨ 4 < ss.length ∨ ss.all okS = false ∨ negAny (svs ss) ss.length = true) : usefulOf u ss = ([], 5) := by
  unfold usefulOf
  by_cases h1 : ss.length < 1 ∨ 4 < ss.length
  · rw [if_pos h1]
  · rw [if_neg h1, if_pos]
    rcases h with h | h | h
    · exact absurd (.inl h) h1
    · exact absurd (.inr h) h1
    · exact h
theorem use_user {u : Usr} {ss : List ByteArray} (h1 : 1 ≤ ss.length) (h4 : ss.length ≤ 4) (hok : ss.all okS = true) (hn : negAny (svs ss) ss.length = false) (hu : usrB ss.length u = false) : usefulOf u ss = ([], 4) := by
  unfold usefulOf; rw [if_neg (by omega), if_neg (by rw [hok, hn]; simp), if_pos hu]
theorem use_in {u : Usr} {ss : List ByteArray} (h1 : 1 ≤ ss.length) (h4 : ss.length ≤ 4) (hok : ss.all okS = true) (hn : negAny (svs ss) ss.length = false) (hu : usrB ss.length u = true) {b : Rat} (hb : LeastK u (svs ss) ss.length b) : usefulOf u ss = (txt b, 0) := by
  unfold usefulOf; rw [if_neg (by omega), if_neg (by rw [hok, hn]; simp), if_neg (by rw [hu]; simp), hb.use]
theorem neg_step {f : Nat → Rat} {k : Nat} (h : negAny f k = false) (h2 : ¬ f k < 0) : negAny f (k + 1) = false := by
  simp only [negAny]; rw [h, decide_eq_false h2]; rfl
theorem frs_put3 {w : World} {ao : Option Addr} {n cap : Nat} {f : Nat → Rat} {b : Nat} {x0 x1 x2 : Value} (h : Frs w ao n cap f) (hx : Bx w b #[x0, x1, x2] 82) (hne : ∀ a, ao = some a → a.block ≠ b) (u0 u1 u2 : Value) : Frs (wput3 w b u0 u1 u2) ao n cap f := by
  obtain ⟨vs, h1, h2⟩ := h
  refine ⟨vs, ⟨h1.len, h1.le, h1.cm, fun hn => ?_, fun b' o e i v hv j u hu => ?_⟩, fun i v hv => ?_⟩
  · obtain ⟨b', o, e, hlt⟩ := h1.head hn
    exact ⟨b', o, e, by simpa [wput3, World.setCell] using hlt⟩
  · have hb' : b' ≠ b := hne _ e
    rw [← h1.cell b' o e i v hv j u hu]
    unfold wput3
    exact World.cell?_of_block (by rw [Below.heap_setCell _ _ _ b' hb', Below.heap_setCell _ _ _ b' hb', Below.heap_setCell _ _ _ b' hb'])
  · obtain ⟨uo, un, uc, yo, yn, yc, ev, hr1, hr2⟩ := h2 i v hv
    exact ⟨uo, un, uc, yo, yn, yc, ev, hr1.put3 hx (by decide) u0 u1 u2, hr2.put3 hx (by decide) u0 u1 u2⟩
theorem pq_div {w : World} {po yo : Option Addr} {pn pc yn yc N : Nat} {x : Rat} (h1 : Row w po pn pc (limbs x.num.natAbs)) (h2 : Row w yo yn yc (limbs (x.den * N))) (hx : ¬ x < 0) (hN : N ≠ 0) (hs : Sm x 75) (hN2 : N ≤ 10000) : PQv w (.agg #[.bool false, .slice po pn pc, .slice yo yn yc]) (x / ((N : Int) : Rat)) 80 := by
  have l1 := h1.len
  have l2 := h2.len
  have l3 := len_mul x.den N
  have l4 := len_small hN2
  have s1 := hs.1
  have s2 := hs.2
  refine ⟨false, po, pn, pc, yo, yn, yc, _, _, rfl, h1, h2, Nat.mul_ne_zero x.den_nz hN, ?_, by omega, by omega⟩
  have hb : negB x = false := by cases h : negB x with | false => rfl | true => exact absurd ((negB_iff x).1 h) hx
  have e := rat_mk x
  rw [hb, rat_of] at e
  rw [rat_of]
  have e1 : (((x.den * N : Nat) : Int) : Rat) = ((x.den : Int) : Rat) * ((N : Int) : Rat) := by rw [← Rat.intCast_mul]; rfl
  rw [e1]
  have hd : ((x.den : Int) : Rat) ≠ 0 := int_rat_zero (by have := x.den_nz; omega)
  have hn : ((N : Int) : Rat) ≠ 0 := int_rat_zero (by omega)
  generalize ((sg false x.num.natAbs : Int) : Rat) = a at *
  generalize ((x.den : Int) : Rat) = d at *
  generalize ((N : Int) : Rat) = n at *
  rw [← e]
  grind

set_option maxHeartbeats 1500000 in
set_option maxRecDepth 20000 in
theorem puseful_any (da : Option Addr) (dn dc : Nat) (u : Usr) (vo : Option Addr) (m cap2 : Nat) (ss : List ByteArray) (w : World) (hd : Arr w 1 da dn dc (ints u.dem)) (ha : Arr w 1 vo m cap2 (strs ss)) (hs : ∀ i, (tx ss i).size ≤ maxLen) (hm : m ≤ 1000000000) :
    Calls Tryd.prog 29 #[.agg #[.slice da dn dc, .int .i64 u.wt, .int .i64 u.cap], .slice vo m cap2] w fun e w' => e = .returned (.tuple #[.string ⟨(usefulOf u ss).1.toArray⟩, .int .i64 (usefulOf u ss).2]) ∧ Below w.heap.size w w' := by
  have hml := ha.len
  rw [strs_len] at hml
  subst hml
  have hdl := hd.len
  rw [ints_len] at hdl
  have HD := hid hd
  have HA := hid ha
  have HS := hid hs
  clear hd ha hs
  have HB_0 := hid (Below.refl w.heap.size w)
  have XU_6 := hid (bx_new w #[.slice da dn dc, .int .i64 u.wt, .int .i64 u.cap] 45)
  have HB_6 : Hid (Below w.heap.size w (w.alloc (.cells #[.slice da dn dc, .int .i64 u.wt, .int .i64 u.cap] 45))) := HB_0.out.alloc HB_0.out.size (.cells #[.slice da dn dc, .int .i64 u.wt, .int .i64 u.cap] 45)
  have leU : w.heap.size ≤ w.heap.size := HB_0.out.size
  clear HB_0
  go_enter Tryd.func29, Tryd.ntmps29
  go_wp2_with fail
  refine (pfracs_any vo ss.length cap2 ss _ (HA.out.below HB_6.out) HS.out hm).mono ?_
  rintro e6 w6 ⟨hpf, hb6⟩
  have XU_7 := hid (XU_6.out.keep hb6)
  have HB_7 : Hid (Below w.heap.size w w6) := HB_6.out.trans (hb6.mono HB_6.out.size)
  clear XU_6 HB_6
  clear hb6
  cases hok : ss.all okS with
  | false =>
    rw [hok, if_neg (by simp)] at hpf
    subst hpf
    have HF := hid (use_list (u := u) (ss := ss) (Or.inr (Or.inr (Or.inl hok))))
    clear hok
    go_wp2
    go_ret2
    exact ⟨by rw [HF.out]; rfl, HB_7.out⟩
  | true =>
    rw [hok, if_pos rfl] at hpf
    obtain ⟨lv, rfl, hno⟩ := hpf
    obtain ⟨lo, lc, rfl, hfr⟩ := hno.frs
    rw [svL_len] at hfr ⊢
    have HOK := hid hok
    have HFR := hid hfr
    clear hok hno hfr
    by_cases h1 : ss.length < 1
    · have HF := hid (use_list (u := u) (ss := ss) (Or.inl h1))
      have i1 : (ss.length : Int) < 1 := by omega
      go_wp2
      go_ret2
      exact ⟨by rw [HF.out]; rfl, HB_7.out⟩
    · have i1 : ¬ (ss.length : Int) < 1 := by omega
      by_cases h4 : 4 < ss.length
      · have HF := hid (use_list (u := u) (ss := ss) (Or.inr (Or.inl h4)))
        have i4 : (4 : Int) < (ss.length : Int) := by omega
        go_wp2
        go_ret2
        exact ⟨by rw [HF.out]; rfl, HB_7.out⟩
      · have i4 : ¬ (4 : Int) < (ss.length : Int) := by omega
        have HSM : Hid (∀ i, i < ss.length → Sm (svs ss i) 75) := fun i hi => svs_75 HOK.out hi
        go_wp2
        go_loop [8] (fun ix => ∃ k : Nat, k ≤ ss.length ∧ ix = .int .i64 k ∧ Hid (negAny (svs ss) k = false)) (fun ix => ss.length - (intOf ix).toNat)
        case atStart => exact ⟨0, Nat.zero_le _, rfl, rfl⟩
        case round =>
          obtain ⟨k, hk, rfl, hz⟩ := hrel
          by_cases hlt : k < ss.length
          · have hkn : (k : Int) < (ss.length : Int) := by omega
            obtain ⟨fb, fo, uo, un, uc, yo, yn, yc, hfo, hfb, f0, f1, f2, r1, r2⟩ := HFR.out.get hlt
            rw [svL_get ss _ _ hlt] at f0
            clear f1 f2 r1 r2
            subst hfo
            generalize hx : svs ss k = x at f0
            have HX := hid hx
            clear hx
            cases hneg : negB x with
            | true =>
              have HF := hid (use_list (u := u) (ss := ss) (Or.inr (Or.inr (Or.inr (negAny_mono (i := k) hlt (by rw [HX.out]; exact (negB_iff x).1 hneg))))))
              rw [hneg] at f0
              clear hneg
              go_wp2
              go_ret2
              exact ⟨by rw [HF.out]; rfl, HB_7.out⟩
            | false =>
              have HN : Hid (negAny (svs ss) (k + 1) = false) := neg_step hz.out (by rw [HX.out, ← negB_iff, hneg]; simp)
              rw [hneg] at f0
              clear hneg
              go_wp2
              exact ⟨⟨k + 1, by omega, by go_num, HN.out⟩, by simp [intOf]; omega⟩
          · obtain rfl : k = ss.length := by omega
            have ltU := XU_7.out.lt
            have cU0 := XU_7.out.cell 0 _ rfl
            have cU1 := XU_7.out.cell 1 _ rfl
            have cU2 := XU_7.out.cell 2 _ rfl
            go_wp2_with fail
            clear ltU cU0 cU1 cU2
            refine (puser_any da dn dc ss.length u _ (HD.out.below HB_7.out) (by omega)).mono ?_
            rintro e5 w5 ⟨rfl, hb5⟩
            have XU_31 := hid (XU_7.out.keep hb5)
            have HB_31 : Hid (Below w.heap.size w w5) := HB_7.out.trans (hb5.mono HB_7.out.size)
            clear XU_7 HB_7
            have HFR5 := hid (HFR.out.below hb5)
            clear hb5
            cases hus : usrB ss.length u with
            | false =>
              have HF := hid (use_user (u := u) (ss := ss) (by omega) (by omega) HOK.out hz.out hus)
              clear hus
              go_wp2
              go_ret2
              exact ⟨by rw [HF.out]; rfl, HB_31.out⟩
            | true =>
              have HF := hid (fun (b : Rat) (hb : LeastK u (svs ss) ss.length b) => use_in (u := u) (ss := ss) (by omega) (by omega) HOK.out hz.out hus hb)
              have hg : Good [u] ss.length := fun i hi => by simp at hi; subst hi; exact hus
              have hcr : 0 ≤ u.cap ∧ u.cap ≤ 1000 := hg.cap (i := 0) (by simp)
              have HDE : Hid (∀ i, amtB (lm u.dem i) = true) := fun i => hg.dem (i := 0) (by simp) i
              have hdn : dn = ss.length := by have h9 : u.dem.length = ss.length := hg.len (i := 0) (by simp); omega
              subst hdn
              clear hus hg
              obtain ⟨N, hN⟩ : ∃ N : Nat, u.cap = (N : Int) := ⟨u.cap.toNat, by omega⟩
              have hN2 : N ≤ 10000 := by omega
              have HNE := hid hN
              clear hcr
              have ltU := XU_31.out.lt
              have cU0 := XU_31.out.cell 0 _ rfl
              have cU1 := XU_31.out.cell 1 _ rfl
              have cU2 := XU_31.out.cell 2 _ rfl
              rw [hN] at cU2
              go_wp2_with fail
              clear ltU cU0 cU1 cU2
              refine (pwhole_any N _ (by omega)).mono ?_
              rintro e6 w6 ⟨v6, rfl, ⟨wo, wn, wc, rfl, hwr, _⟩, hb6⟩
              have HWR := hid hwr
              clear hwr
              have XU_32 := hid (XU_31.out.keep hb6)
              have Rf_32 := hid (HFR5.out.below hb6)
              have HB_32 : Hid (Below w.heap.size w w6) := HB_31.out.trans (hb6.mono HB_31.out.size)
              clear XU_31 HFR5 HB_31
              clear hb6
              go_wp2_with fail
              refine (pwhole_one _).mono ?_
              rintro e7 w7 ⟨v7, rfl, ⟨xo, xn, xc, rfl, hxr, _⟩, hb7⟩
              have HXR := hid hxr
              have HWR7 := hid (HWR.out.below hb7)
              clear hxr HWR
              have XU_33 := hid (XU_32.out.keep hb7)
              have Rf_33 := hid (Rf_32.out.below hb7)
              have HB_33 : Hid (Below w.heap.size w w7) := HB_32.out.trans (hb7.mono HB_32.out.size)
              clear XU_32 Rf_32 HB_32
              clear hb7
              have HPB : Hid (PQv (w7.alloc (.cells #[.bool false, .slice wo wn wc, .slice xo xn xc] 82)) (.agg #[.bool false, .slice wo wn wc, .slice xo xn xc]) ((u.cap : Int) : Rat) 80) := by rw [HNE.out]; exact ((pq_whole HWR7.out HXR.out hN2).mono (by omega)).below ((Below.refl _ _).alloc (Nat.le_refl _) _)
              clear HWR7 HXR hN
              have HWL : Hid (w.heap.size < w7.heap.size) := XU_33.out.lt
              have HFA : Hid (∀ b o, lo = some ⟨b, o, none⟩ → b < w7.heap.size) := fun b o e => by obtain ⟨b', o', _, _, _, _, _, _, e', h', _⟩ := Rf_33.out.get (i := 0) (by omega); rw [e] at e'; cases e'; exact h'
              have XU_34 := hid (bx_past XU_33.out (.cells #[.bool false, .slice wo wn wc, .slice xo xn xc] 82))
              have XB_34 := hid (bx_new w7 #[.bool false, .slice wo wn wc, .slice xo xn xc] 82)
              have Rf_34 := hid (Rf_33.out.alloc (.cells #[.bool false, .slice wo wn wc, .slice xo xn xc] 82))
              have HB_34 : Hid (Below w.heap.size w (w7.alloc (.cells #[.bool false, .slice wo wn wc, .slice xo xn xc] 82))) := HB_33.out.alloc HB_33.out.size (.cells #[.bool false, .slice wo wn wc, .slice xo xn xc] 82)
              have leB : w.heap.size ≤ w7.heap.size := HB_33.out.size
              clear XU_33 Rf_33 HB_33
              go_wp2
              go_loopg [11] ss.length (fun gg ix wr => ∃ (r : Nat) (b : Rat) (bm : Bool) (ba : Option Addr) (bb bc : Nat) (bd : Option Addr) (be bf : Nat), gg = ss.length - r ∧ r ≤ ss.length ∧ ix = .int .i64 r ∧ Hid (LeastK u (svs ss) r b) ∧ Hid (Bx wr w.heap.size #[.slice da ss.length dc, .int .i64 u.wt, .int .i64 u.cap] 45) ∧ Hid (Bx wr w7.heap.size #[.bool bm, .slice ba bb bc, .slice bd be bf] 82) ∧ Hid (PQv wr (.agg #[.bool bm, .slice ba bb bc, .slice bd be bf]) (b) (80)) ∧ Hid (Frs wr lo ss.length lc (rq (svL ss ss.length))) ∧ Hid (Below w.heap.size w wr))
              case atStart => exact ⟨0, _, _, _, _, _, _, _, _, rfl, Nat.zero_le _, rfl, LeastK.zero u _, XU_34.out, XB_34.out, HPB.out, Rf_34.out, HB_34.out⟩
              case round =>
                clear XU_34 XB_34 HPB Rf_34 HB_34
                obtain ⟨r, b, bm, ba, bb, bc, bd, be, bf, hgr, hr, rfl, hLK, hXU, hXB, hPB, hFR, hB⟩ := hrel
                by_cases hrt : r < ss.length
                · have hrn : (r : Int) < (ss.length : Int) := by omega
                  obtain ⟨db, dof, rfl, hdb⟩ := (HD.out.below hB.out).head (by omega)
                  have cd := (HD.out.below hB.out).int rfl hrt
                  have hdr := amt_rng (HDE.out r)
                  have u0 := hXU.out.cell 0 _ rfl
                  have ul := hXU.out.lt
                  obtain ⟨M, hM⟩ : ∃ M : Nat, lm u.dem r = (M : Int) := ⟨(lm u.dem r).toNat, by omega⟩
                  have HM := hid hM
                  rw [hM] at cd
                  have hM2 : M ≤ 10000 := by omega
                  clear hM hdr
                  by_cases hM0 : M = 0
                  · subst hM0
                    have HL2 : Hid (LeastK u (svs ss) (r + 1) b) := hLK.out.skip (by rw [HM.out]; rfl)
                    go_wp2
                    go_roundg (ss.length - (r + 1))
                    case measure => omega
                    case rel => exact ⟨r + 1, b, bm, ba, bb, bc, bd, be, bf, rfl, by omega, by go_num, HL2.out, hXU.out, hXB.out, hPB.out, hFR.out, hB.out⟩
                  · have hM1 : (0 : Int) < (M : Int) := by omega
                    obtain ⟨fb, fo, uo, un, uc, yo, yn, yc, hfo, hfb, f0, f1, f2, r1, r2⟩ := hFR.out.get hrt
                    rw [svL_get ss _ _ hrt] at f0 r1 r2
                    clear f0
                    have HFL := hid (HFA.out _ _ hfo)
                    subst hfo
                    have HR1 := hid r1
                    have HR2 := hid r2
                    clear r1 r2
                    have HNG : Hid (¬ svs ss r < 0) := fun h5 => by have h6 := negAny_mono hrt h5; rw [hz.out] at h6; cases h6
                    have HSX := hid (HSM.out r hrt)
                    have HDIV : Hid (svs ss r / ((lm u.dem r : Int) : Rat) = svs ss r / ((M : Int) : Rat)) := by rw [HM.out]; rfl
                    generalize hx : svs ss r = x at HR1 HR2 HNG HSX HDIV
                    have HX := hid hx
                    clear hx
                    go_upto_region 17 with fail
                    have SK : Hid (∀ U, Below wr.heap.size wr U → U.cell? ⟨fb, fo + r * 3 + 1, none⟩ = some (.slice uo un uc) ∧ U.cell? ⟨fb, fo + r * 3 + 2, none⟩ = some (.slice yo yn yc) ∧ U.cell? ⟨w.heap.size, 0, none⟩ = some (.slice (some ⟨db, dof, none⟩) ss.length dc) ∧ U.cell? ⟨db, dof + r, none⟩ = some (.int .i64 (M : Int))) := fun U h => ⟨(h.cell (p := ⟨fb, fo + r * 3 + 1, none⟩) hfb).trans f1, (h.cell (p := ⟨fb, fo + r * 3 + 2, none⟩) hfb).trans f2, (h.cell (p := ⟨w.heap.size, 0, none⟩) ul).trans u0, (h.cell (p := ⟨db, dof + r, none⟩) hdb).trans cd⟩
                    go_cut [12, 11] (fun pp y0 wx => ∃ (PB : Nat) (ta : Option Addr) (tb2 tc : Nat), pp = .pointer (some ⟨PB, 0, none⟩) ∧ .int .i64 (r : Nat) = y0 ∧ Hid (Bx wx w.heap.size #[.slice (some ⟨db, dof, none⟩) ss.length dc, .int .i64 u.wt, .int .i64 u.cap] 45) ∧ Hid (Bx wx w7.heap.size #[.bool bm, .slice ba bb bc, .slice bd be bf] 82) ∧ Hid (PQv wx (.agg #[.bool bm, .slice ba bb bc, .slice bd be bf]) (b) (80)) ∧ Hid (Frs wx (some ⟨fb, fo, none⟩) ss.length lc (rq (svL ss ss.length))) ∧ Hid (Bx wx PB #[.bool false, .slice uo un uc, .slice ta tb2 tc] 82) ∧ Hid (PQv wx (.agg #[.bool false, .slice uo un uc, .slice ta tb2 tc]) (x / ((M : Int) : Rat)) 80) ∧ Hid (Below w.heap.size w wx) ∧ wr.heap.size ≤ PB)
                    case first =>
                      have df1 : wr.drew.cell? ⟨fb, fo + r * 3 + 1, none⟩ = some (.slice uo un uc) := ((Below.refl wr.heap.size wr).drew.cell (p := ⟨fb, fo + r * 3 + 1, none⟩) hfb).trans f1
                      have df2 : wr.drew.cell? ⟨fb, fo + r * 3 + 2, none⟩ = some (.slice yo yn yc) := ((Below.refl wr.heap.size wr).drew.cell (p := ⟨fb, fo + r * 3 + 2, none⟩) hfb).trans f2
                      have du0 : wr.drew.cell? ⟨w.heap.size, 0, none⟩ = some (.slice (some ⟨db, dof, none⟩) ss.length dc) := ((Below.refl wr.heap.size wr).drew.cell (p := ⟨w.heap.size, 0, none⟩) ul).trans u0
                      have dcd : wr.drew.cell? ⟨db, dof + r, none⟩ = some (.int .i64 (M : Int)) := ((Below.refl wr.heap.size wr).drew.cell (p := ⟨db, dof + r, none⟩) hdb).trans cd
                      go_region_held3 (fun w' => w'.cell? ⟨fb, fo + r * 3 + 1, none⟩ = some (.slice uo un uc) ∧ w'.cell? ⟨fb, fo + r * 3 + 2, none⟩ = some (.slice yo yn yc) ∧ w'.cell? ⟨w.heap.size, 0, none⟩ = some (.slice (some ⟨db, dof, none⟩) ss.length dc) ∧ w'.cell? ⟨db, dof + r, none⟩ = some (.int .i64 (M : Int))) (first | exact SK.out _ (Below.refl _ _).drew | exact SK.out _ ((Below.refl _ _).alloc (Nat.le_refl _) _).drew | exact SK.out _ hb71 | exact SK.out _ (hb71.alloc hb71.size _) | exact SK.out _ hb72 | exact SK.out _ (hb72.alloc hb72.size _) | exact SK.out _ (below_put3 hb72 (Nat.le_refl _) _ _ _) | exact SK.out _ (below_put3 hb72 hb71.size _ _ _))
                        (first | (go_at_call 67; refine (pwhole_any M _ (by omega)).mono ?_; rintro e71 w71 ⟨v71, rfl, ⟨go, gn, gc, rfl, hg71, _⟩, hu71⟩; have hb71 : Below wr.heap.size wr w71 := (by first | exact (Below.refl wr.heap.size wr).drew.trans (hu71.mono (Below.refl wr.heap.size wr).drew.size) | exact ((Below.refl wr.heap.size wr).alloc (Nat.le_refl _) _).drew.trans (hu71.mono ((Below.refl wr.heap.size wr).alloc (Nat.le_refl _) _).drew.size)); have lg71 : gn ≤ 2 := (by rw [← hg71.len]; exact len_small hM2); try (have XQ71 := hid ((bx_new wr #[.bool false, .slice none 0 0, .slice none 0 0] 82).drew.keep hu71))) | (go_at_call 58; refine (ptimes_any yo go yn yc gn gc x.den M _ (HR2.out.below (by first | exact hb71 | exact hb71.alloc hb71.size _)) (by first | exact hg71 | exact hg71.alloc _) (by have h8 := HR2.out.sm2 HSX.out; omega) (by omega)).mono ?_; rintro e72 w72 ⟨v72, rfl, ⟨ta, tb2, tc, rfl, ht72, _⟩, hu72⟩; have hb72 : Below wr.heap.size wr w72 := (by first | exact hb71.trans (hu72.mono hb71.size) | exact (hb71.alloc hb71.size _).trans (hu72.mono (hb71.alloc hb71.size _).size)); first | (have XP72 := XQ71.out.keep hu72; have xp0 := XP72.cell 0 _ rfl; have xp1 := XP72.cell 1 _ rfl; have xp2 := XP72.cell 2 _ rfl; have xf0 := XP72.frozen 0; have xf1 := XP72.frozen 1; have xf2 := XP72.frozen 2; have xl := XP72.lt; have HXP := hid XP72; clear XP72) | (have XP72 := (bx_new w71 #[.bool false, .slice none 0 0, .slice none 0 0] 82).keep hu72; have xp0 := XP72.cell 0 _ rfl; have xp1 := XP72.cell 1 _ rfl; have xp2 := XP72.cell 2 _ rfl; have xf0 := XP72.frozen 0; have xf1 := XP72.frozen 1; have xf2 := XP72.frozen 2; have xl := XP72.lt; have HXP := hid XP72; clear XP72) | skip))
                      all_goals (go_wp2_with fail; go_meet)
                      all_goals (first | exact ⟨w72.heap.size, ta, tb2, tc, rfl, rfl, bx_past (hXU.out.keep hb72) _, bx_past (hXB.out.keep hb72) _, (hPB.out.below hb72).below ((Below.refl w72.heap.size w72).alloc (Nat.le_refl _) _), (hFR.out.below hb72).below ((Below.refl w72.heap.size w72).alloc (Nat.le_refl _) _), bx_new w72 _ _, (pq_div (HR1.out.below hb72) ht72 HNG.out hM0 HSX.out hM2).below ((Below.refl w72.heap.size w72).alloc (Nat.le_refl _) _), (hB.out.trans (hb72.mono hB.out.size)).alloc (Nat.le_trans hB.out.size hb72.size) _, hb72.size⟩ | exact ⟨wr.heap.size, ta, tb2, tc, rfl, rfl, hXU.out.keep (below_put3 hb72 (Nat.le_refl _) _ _ _), hXB.out.keep (below_put3 hb72 (Nat.le_refl _) _ _ _), hPB.out.below (below_put3 hb72 (Nat.le_refl _) _ _ _), hFR.out.below (below_put3 hb72 (Nat.le_refl _) _ _ _), Bx.put3 HXP.out _ _ _, (pq_div (HR1.out.below hb72) ht72 HNG.out hM0 HSX.out hM2).put3 HXP.out _ _ _, below_put3 (hB.out.trans (hb72.mono hB.out.size)) hB.out.size _ _ _, (Nat.le_refl _)⟩ | exact ⟨w71.heap.size, ta, tb2, tc, rfl, rfl, hXU.out.keep (below_put3 hb72 hb71.size _ _ _), hXB.out.keep (below_put3 hb72 hb71.size _ _ _), hPB.out.below (below_put3 hb72 hb71.size _ _ _), hFR.out.below (below_put3 hb72 hb71.size _ _ _), Bx.put3 HXP.out _ _ _, (pq_div (HR1.out.below hb72) ht72 HNG.out hM0 HSX.out hM2).put3 HXP.out _ _ _, below_put3 (hB.out.trans (hb72.mono hB.out.size)) (Nat.le_trans hB.out.size hb71.size) _ _ _, hb71.size⟩)
                    case rest =>
                      clear SK hXU hXB hPB hFR hB f1 f2 u0 cd ul hfb hdb HR1 HR2
                      obtain ⟨PB, ta, tb2, tc, rfl, rfl, gXU, gXB, gPB, gFR, gXT, gPT, gB, lePB⟩ := hcut
                      have ltB := gXB.out.lt
                      have cB0 := gXB.out.cell 0 _ rfl
                      have cB1 := gXB.out.cell 1 _ rfl
                      have cB2 := gXB.out.cell 2 _ rfl
                      have ltT := gXT.out.lt
                      have cT0 := gXT.out.cell 0 _ rfl
                      have cT1 := gXT.out.cell 1 _ rfl
                      have cT2 := gXT.out.cell 2 _ rfl
                      go_wp2_with fail
                      clear ltB cB0 cB1 cB2 ltT cT0 cT1 cT2
                      refine (porder_pq (.agg #[.bool false, .slice uo un uc, .slice ta tb2 tc]) (.agg #[.bool bm, .slice ba bb bc, .slice bd be bf]) (x / ((M : Int) : Rat)) b _ (gPT.out.mono (by omega)) (gPB.out.mono (by omega))).mono ?_
                      rintro e9 w9 ⟨rfl, hb9⟩
                      have XU_91 := hid (gXU.out.keep hb9)
                      have XB_91 := hid (gXB.out.keep hb9)
                      have XT_91 := hid (gXT.out.keep hb9)
                      have Rpb_91 := hid (gPB.out.below hb9)
                      have Rf_91 := hid (gFR.out.below hb9)
                      have Rpt_91 := hid (gPT.out.below hb9)
                      have HB_91 : Hid (Below w.heap.size w w9) := gB.out.trans (hb9.mono gB.out.size)
                      clear gXU gXB gXT gPB gFR gPT gB
                      clear hb9
                      generalize hcq : cmpQ (x / ((M : Int) : Rat)) b = c
                      have HC := hid hcq
                      clear hcq
                      by_cases hc : c < 0
                      · have HL2 : Hid (LeastK u (svs ss) (r + 1) (x / ((M : Int) : Rat))) := by have h9 := hLK.out.turn (by rw [HM.out]; omega) (by rw [HX.out, HDIV.out]; have h9 := HC.out; rw [← h9] at hc; exact cmp_lt.1 hc); rw [HX.out, HDIV.out] at h9; exact h9
                        have HBF := hid (XB_91.out.put3 (.bool false) (.slice uo un uc) (.slice ta tb2 tc))
                        have HUF := hid (XU_91.out.put3_other (b := w7.heap.size) (.bool false) (.slice uo un uc) (.slice ta tb2 tc) (by have := XU_91.out.lt; have := HWL.out; omega))
                        have HPF := hid (Rpt_91.out.put3 XB_91.out (.bool false) (.slice uo un uc) (.slice ta tb2 tc))
                        have HLF : Hid (Below w.heap.size w (wput3 w9 w7.heap.size (.bool false) (.slice uo un uc) (.slice ta tb2 tc))) := below_put3 HB_91.out (by have := HWL.out; omega) (.bool false) (.slice uo un uc) (.slice ta tb2 tc)
                        have HFF : Hid (Frs (wput3 w9 w7.heap.size (.bool false) (.slice uo un uc) (.slice ta tb2 tc)) (some ⟨fb, fo, none⟩) ss.length lc (rq (svL ss ss.length))) := frs_put3 Rf_91.out XB_91.out (fun a ha => by cases ha; show fb ≠ w7.heap.size; have := HFL.out; omega) (.bool false) (.slice uo un uc) (.slice ta tb2 tc)
                        have ltB := XB_91.out.lt
                        have cB0 := XB_91.out.cell 0 _ rfl
                        have zB0 := XB_91.out.frozen 0
                        have cB1 := XB_91.out.cell 1 _ rfl
                        have zB1 := XB_91.out.frozen 1
                        have cB2 := XB_91.out.cell 2 _ rfl
                        have zB2 := XB_91.out.frozen 2
                        have ltT := XT_91.out.lt
                        have cT0 := XT_91.out.cell 0 _ rfl
                        have cT1 := XT_91.out.cell 1 _ rfl
                        have cT2 := XT_91.out.cell 2 _ rfl
                        unfold wput3 at HBF HUF HPF HLF HFF
                        go_wp2
                        go_roundg (ss.length - (r + 1))
                        case measure => omega
                        case rel => exact ⟨r + 1, x / ((M : Int) : Rat), false, uo, un, uc, ta, tb2, tc, rfl, by omega, by go_num, HL2.out, HUF.out, HBF.out, HPF.out, HFF.out, HLF.out⟩
                      · have HL2 : Hid (LeastK u (svs ss) (r + 1) b) := hLK.out.keep (by rw [HX.out, HDIV.out]; exact Rat.not_lt.1 (fun h5 => hc (by rw [← HC.out]; exact cmp_lt.2 h5)))
                        go_wp2
                        go_roundg (ss.length - (r + 1))
                        case measure => omega
                        case rel => exact ⟨r + 1, b, bm, ba, bb, bc, bd, be, bf, rfl, by omega, by go_num, HL2.out, XU_91.out, XB_91.out, Rpb_91.out, Rf_91.out, HB_91.out⟩
                · obtain rfl : r = ss.length := by omega
                  have ltB := hXB.out.lt
                  have cB0 := hXB.out.cell 0 _ rfl
                  have cB1 := hXB.out.cell 1 _ rfl
                  have cB2 := hXB.out.cell 2 _ rfl
                  go_wp2_with fail
                  clear ltB cB0 cB1 cB2
                  have HFF := hid (HF.out b hLK.out)
                  obtain ⟨b1, b2, b3, b4, b5, b6, b7, bp, bq, hbe, q1, q2, hq, hbr, q3, q4⟩ := hPB.out
                  injection hbe with hbe1
                  simp only [Array.mk.injEq, List.cons.injEq, Value.bool.injEq, Value.slice.injEq, and_true] at hbe1
                  obtain ⟨rfl, ⟨rfl, rfl, rfl⟩, rfl, rfl, rfl⟩ := hbe1
                  refine (ptext_any bm ba bd bb bc be bf bp bq _ q1 q2 (by omega) (by omega) hq).mono ?_
                  rintro e9 w9 ⟨rfl, hb9⟩
                  have XU_121 := hid (hXU.out.keep hb9)
                  have XB_121 := hid (hXB.out.keep hb9)
                  have Rpb_121 := hid (hPB.out.below hb9)
                  have Rf_121 := hid (hFR.out.below hb9)
                  have HB_121 : Hid (Below w.heap.size w w9) := hB.out.trans (hb9.mono hB.out.size)
                  clear hXU hXB hPB hFR hB
                  clear hb9
                  rw [← hbr]
                  clear hbr
                  go_wp2
                  go_ret2
                  exact ⟨by rw [HFF.out]; rfl, HB_121.out⟩

end Go.Proofs.YtigokanoflkinaaDoor
