/- portionref.common: the greatest common divisor of any two numbers that are not 0. (Laid by mkcommon.py.) -/
import Derived.Test.YtddbflggcblfcaaDoorRefE
import Derived.Deep.LoopGhost
namespace Go.Proofs.YtddbflggcblfcaaDoor
set_option linter.unusedSimpArgs false
set_option linter.unusedVariables false
open Go.RowKit Por

theorem evB_true {x : Nat} (h : evB x = true) : x % 2 = 0 := by unfold evB at h; simpa using h
theorem evB_false {x : Nat} (h : evB x = false) : x % 2 = 1 := by unfold evB at h; simp at h; omega
theorem gcd_both (a b t G : Nat) (ha : a % 2 = 0) (hb : b % 2 = 0) (h : Nat.gcd a b * t = G) : Nat.gcd (a / 2) (b / 2) * (t + t) = G := by
  have e1 : a = 2 * (a / 2) := by omega
  have e2 : b = 2 * (b / 2) := by omega
  rw [e1, e2, Nat.gcd_mul_left] at h
  rw [← h, Nat.mul_assoc, Nat.mul_comm 2, Nat.mul_assoc, Nat.mul_two]
theorem gcd_odd (a b : Nat) (ha : a % 2 = 0) (hb : b % 2 = 1) : Nat.gcd (a / 2) b = Nat.gcd a b := by
  have e1 : a = 2 * (a / 2) := by omega
  have hc : Nat.Coprime 2 b := by
    unfold Nat.Coprime
    rw [Nat.gcd_rec, hb]
    rfl
  conv => rhs; rw [e1]
  exact (Nat.Coprime.gcd_mul_left_cancel (a / 2) hc).symm
theorem t_le (a b t G : Nat) (hb : b ≠ 0) (h : Nat.gcd a b * t = G) : t ≤ G := by
  have : 0 < Nat.gcd a b := Nat.gcd_pos_of_pos_right a (by omega)
  rw [← h]
  exact Nat.le_mul_of_pos_left t this

set_option maxHeartbeats 8000000 in
set_option maxRecDepth 20000 in
theorem pcommon_any (ao bo : Option Addr) (n capa m capb : Nat) (x y : Nat) (w : World) (hr : Row w ao n capa (limbs x)) (hs : Row w bo m capb (limbs y)) (hn : n ≤ 10000) (hm : m ≤ 10000) (hx : x ≠ 0) (hy : y ≠ 0) :
    Calls Tryd.prog 97 #[.slice ao n capa, .slice bo m capb] w fun e w' => ∃ v, e = .returned v ∧ Sli w.heap.size w' v (Nat.gcd x y) ∧ Below w.heap.size w w' := by
  have l1 := hr.len
  have l2 := hs.len
  have HX := hid hx
  have HY := hid hy
  have HR := hid hr
  have HS := hid hs
  obtain ⟨G, hG⟩ : ∃ G, G = Nat.gcd x y := ⟨_, rfl⟩
  have hGx : Hid (G ≤ x) := by rw [hG]; exact Nat.gcd_le_left y (by omega)
  rw [← hG]
  have HG := hid hG.symm
  clear hr hs hx hy hG
  go_enter Tryd.func97, Tryd.ntmps97
  go_wp2_with fail
  refine (pwhole_any 1 _ (by omega)).mono ?_
  rintro e0 w0 ⟨v0, rfl, hs0, hb0⟩
  have HS0 := hid hs0
  have HR0 := hid (HR.out.below hb0)
  have HQ0 := hid (HS.out.below hb0)
  have HB0 := hid hb0
  clear hs0 hb0 HR HS
  go_wp2
  go_loopg [0, 1, 5] x (fun g va vb vt wr => ∃ (ao bo to : Option Addr) (n capa m capb p capp a b t : Nat), g = a ∧ Hid (a ≠ 0) ∧ Hid (b ≠ 0) ∧ Hid (a ≤ x) ∧ Hid (b ≤ y) ∧ va = .slice ao n capa ∧ vb = .slice bo m capb ∧ vt = .slice to p capp ∧ Hid (Nat.gcd a b * t = G) ∧ Hid (Row wr ao n capa (limbs a)) ∧ Hid (Row wr bo m capb (limbs b)) ∧ Hid (Row wr to p capp (limbs t)) ∧ Hid (Below w.heap.size w wr))
  case atStart =>
    obtain ⟨to, p, capp, rfl, hrt, _⟩ := HS0.out
    exact ⟨ao, bo, to, n, capa, m, capb, p, capp, x, y, 1, rfl, HX.out, HY.out, Nat.le_refl _, Nat.le_refl _, rfl, rfl, rfl, by show _ = _; rw [Nat.mul_one]; exact HG.out, HR0.out, HQ0.out, hrt, HB0.out⟩
  case round =>
    obtain ⟨ao, bo, to, n, capa, m, capb, p, capp, a, b, t, hga, ha0, hb0, hax, hby, rfl, rfl, rfl, hgt, Ra, Rb, Rt, hB⟩ := hrel
    have hnl := Ra.out.len
    have hml := Rb.out.len
    have hpl := Rt.out.len
    have hnx := @len_mono a x hax.out
    have hmy := @len_mono b y hby.out
    have htx := @len_mono t x (Nat.le_trans (t_le a b t G hb0.out hgt.out) hGx.out)
    have HGA := hid hga
    clear hga
    cases hev : evB a with
    | false =>
      have HEV := hid hev
      have hodd : Hid (¬ (a % 2 = 0 ∧ b % 2 = 0)) := by have := evB_false hev; show ¬ _; omega
      clear hev
      go_wp2_with fail
      refine (peven_any ao n capa a _ Ra.out (by omega)).mono ?_
      rintro e1 w1 ⟨rfl, rfl⟩
      rw [HEV.out]
      clear HEV
      go_wp2
      go_loopg [0, 1] (a + b) (fun g va vb wr => ∃ (ao bo : Option Addr) (n capa m capb a b : Nat), g = a + b ∧ Hid (b ≠ 0) ∧ Hid (a ≤ x) ∧ Hid (b ≤ y) ∧ va = .slice ao n capa ∧ vb = .slice bo m capb ∧ Hid (Nat.gcd a b * t = G) ∧ Hid (¬ (a % 2 = 0 ∧ b % 2 = 0)) ∧ Hid (Row wr ao n capa (limbs a)) ∧ Hid (Row wr bo m capb (limbs b)) ∧ Hid (Row wr to p capp (limbs t)) ∧ Hid (Below w.heap.size w wr))
      case atStart => exact ⟨ao, bo, n, capa, m, capb, a, b, rfl, hb0.out, hax.out, hby.out, rfl, rfl, hgt.out, hodd.out, Ra.out, Rb.out, Rt.out, hB.out⟩
      case round =>
        clear HGA Ra Rb Rt hB ha0 hax hb0 hby hgt hml hmy hnl hnx hodd
        obtain ⟨ao, bo, n, capa, m, capb, a, b, hga, hb0, hax, hby, rfl, rfl, hgt, hodd, Ra, Rb, Rt, hB⟩ := hrel
        have hnl := Ra.out.len
        have hml := Rb.out.len
        have hnx := @len_mono a x hax.out
        have hmy := @len_mono b y hby.out
        have HGA := hid hga
        clear hga
        by_cases hz : a = 0
        · have hn0 : n = 0 := by rw [← hnl, hz]; rfl
          have HE : Hid (b * t = G) := by have := hgt.out; rw [hz, Nat.gcd_zero_left] at this; exact this
          subst hn0
          go_wp2_with fail
          refine (ptimes_any bo to m capb p capp b t _ Rb.out Rt.out (by omega) (by omega)).mono ?_
          rintro e1 w1 ⟨v, rfl, hsl, hb1⟩
          have HB_1 : Hid (Below w.heap.size w w1) := hB.out.trans (hb1.mono hB.out.size)
          clear hb1
          rw [HE.out] at hsl
          have HSL := hid hsl
          clear hsl
          go_wp2
          go_ret
          obtain ⟨ro, rn, rc, rfl, hrw, hfr⟩ := HSL.out
          exact ⟨_, rfl, ⟨ro, rn, rc, rfl, hrw, hfr.mono hB.out.size⟩, HB_1.out⟩
        · have hnp : (0 : Int) < (n : Int) := by
            have h1 := limbs_ne_nil hz
            have h2 := List.length_pos_iff.2 h1
            omega
          have hnp2 : 0 < n := by omega
          have HZ := hid hz
          clear hz
          go_wp2
          go_loopg [0] a (fun g va wr => ∃ (ao : Option Addr) (n capa a2 : Nat), g = a2 ∧ Hid (a2 ≠ 0) ∧ Hid (a2 ≤ a) ∧ va = .slice ao n capa ∧ Hid (Nat.gcd a2 b * t = G) ∧ Hid (¬ (a2 % 2 = 0 ∧ b % 2 = 0)) ∧ Hid (Row wr ao n capa (limbs a2)) ∧ Hid (Row wr bo m capb (limbs b)) ∧ Hid (Row wr to p capp (limbs t)) ∧ Hid (Below w.heap.size w wr))
          case atStart => exact ⟨ao, n, capa, a, rfl, HZ.out, Nat.le_refl _, rfl, hgt.out, hodd.out, Ra.out, Rb.out, Rt.out, hB.out⟩
          case round =>
            clear Ra Rb Rt hB hnl hnp hnp2 hgt hodd
            obtain ⟨ao, n, capa, a2, hg2, ha20, ha2, rfl, hgt, hodd, Ra, Rb, Rt, hB⟩ := hrel
            have hnl := Ra.out.len
            have hna := @len_mono a2 a ha2.out
            have HG2 := hid hg2
            clear hg2
            cases hev : evB a2 with
            | true =>
              have ha2e := hid (evB_true hev)
              have HEV := hid hev
              clear hev
              go_wp2_with fail
              refine (peven_any ao n capa a2 _ Ra.out (by omega)).mono ?_
              rintro e2 w2 ⟨rfl, rfl⟩
              rw [HEV.out]
              go_wp2_with fail
              refine (phalf_any ao n capa a2 _ Ra.out (by omega)).mono ?_
              rintro e3 w3 ⟨v, rfl, ⟨qo, qn, qc, rfl, hrq, _⟩, hb3⟩
              have Rb_3 := hid (Rb.out.below hb3)
              have Rt_3 := hid (Rt.out.below hb3)
              have HB_3 : Hid (Below w.heap.size w w3) := hB.out.trans (hb3.mono hB.out.size)
              clear hb3
              have HRQ := hid hrq
              clear hrq
              go_wp2
              go_roundg (a2 / 2)
              case measure => rw [HG2.out]; have := ha20.out; omega
              case rel =>
                refine ⟨qo, qn, qc, a2 / 2, rfl, ?_, ?_, rfl, ?_, ?_, HRQ.out, Rb_3.out, Rt_3.out, HB_3.out⟩
                · have := ha20.out; have := ha2e.out; show _ ≠ _; omega
                · have := ha2.out; show _ ≤ _; omega
                · show _ = _; rw [gcd_odd a2 b ha2e.out (by have := hodd.out; have := ha2e.out; omega)]; exact hgt.out
                · have h1 := hodd.out; have h2 := ha2e.out; show ¬ _; omega
            | false =>
              have ha2o := hid (evB_false hev)
              have HEV := hid hev
              clear hev hodd
              go_wp2_with fail
              refine (peven_any ao n capa a2 _ Ra.out (by omega)).mono ?_
              rintro e4 w4 ⟨rfl, rfl⟩
              rw [HEV.out]
              clear HEV
              go_wp2
              go_loopg [1] b (fun g vb wr => ∃ (bo : Option Addr) (m capb b2 : Nat), g = b2 ∧ Hid (b2 ≠ 0) ∧ Hid (b2 ≤ b) ∧ vb = .slice bo m capb ∧ Hid (Nat.gcd a2 b2 * t = G) ∧ Hid (Row wr ao n capa (limbs a2)) ∧ Hid (Row wr bo m capb (limbs b2)) ∧ Hid (Row wr to p capp (limbs t)) ∧ Hid (Below w.heap.size w wr))
              case atStart => exact ⟨bo, m, capb, b, rfl, hb0.out, Nat.le_refl _, rfl, hgt.out, Ra.out, Rb.out, Rt.out, hB.out⟩
              case round =>
                clear Ra Rb Rt hB hml hgt
                obtain ⟨bo, m, capb, b2, hg3, hb20, hb2, rfl, hgt, Ra, Rb, Rt, hB⟩ := hrel
                have hml := Rb.out.len
                have hmb := @len_mono b2 b hb2.out
                have HG3 := hid hg3
                clear hg3
                cases hev : evB b2 with
                | true =>
                  have hb2e := hid (evB_true hev)
                  have HEV := hid hev
                  clear hev
                  go_wp2_with fail
                  refine (peven_any bo m capb b2 _ Rb.out (by omega)).mono ?_
                  rintro e5 w5 ⟨rfl, rfl⟩
                  rw [HEV.out]
                  go_wp2_with fail
                  refine (phalf_any bo m capb b2 _ Rb.out (by omega)).mono ?_
                  rintro e6 w6 ⟨v, rfl, ⟨qo, qn, qc, rfl, hrq, _⟩, hb6⟩
                  have Ra_6 := hid (Ra.out.below hb6)
                  have Rt_6 := hid (Rt.out.below hb6)
                  have HB_6 : Hid (Below w.heap.size w w6) := hB.out.trans (hb6.mono hB.out.size)
                  clear hb6
                  have HRQ := hid hrq
                  clear hrq
                  go_wp2
                  go_roundg (b2 / 2)
                  case measure => rw [HG3.out]; have := hb20.out; omega
                  case rel =>
                    refine ⟨qo, qn, qc, b2 / 2, rfl, ?_, ?_, rfl, ?_, Ra_6.out, HRQ.out, Rt_6.out, HB_6.out⟩
                    · have := hb20.out; have := hb2e.out; show _ ≠ _; omega
                    · have := hb2.out; show _ ≤ _; omega
                    · show _ = _; rw [Nat.gcd_comm, gcd_odd b2 a2 hb2e.out ha2o.out, Nat.gcd_comm]; exact hgt.out
                | false =>
                  have hb2o := hid (evB_false hev)
                  have HEV := hid hev
                  clear hev
                  go_wp2_with fail
                  refine (peven_any bo m capb b2 _ Rb.out (by omega)).mono ?_
                  rintro e7 w7 ⟨rfl, rfl⟩
                  rw [HEV.out]
                  clear HEV
                  go_wp2_with fail
                  refine (pcmp_any ao bo n capa m capb a2 b2 _ Ra.out Rb.out (by omega) (by omega)).mono ?_
                  rintro e8 w8 ⟨rfl, hb8⟩
                  have Ra_8 := hid (Ra.out.below hb8)
                  have Rb_8 := hid (Rb.out.below hb8)
                  have Rt_8 := hid (Rt.out.below hb8)
                  have HB_8 : Hid (Below w.heap.size w w8) := hB.out.trans (hb8.mono hB.out.size)
                  clear hb8
                  obtain ⟨c0, c1⟩ := cmp3_bd (a2 : Int) (b2 : Int)
                  have hlt9 : a2 < b2 → cmp3 (a2 : Int) (b2 : Int) = -1 := fun h => by unfold cmp3; rw [if_pos (by omega)]
                  have hge9 : b2 ≤ a2 → 0 ≤ cmp3 (a2 : Int) (b2 : Int) := fun h => by unfold cmp3; rw [if_neg (by omega)]; split <;> omega
                  generalize cmp3 (a2 : Int) (b2 : Int) = C at *
                  by_cases hlt : a2 < b2
                  · have hc := hlt9 hlt
                    subst hc
                    have HLT := hid hlt
                    clear hlt9 hge9 hlt
                    go_wp2_with fail
                    refine (pless_any bo ao m capb n capa b2 a2 _ Rb_8.out Ra_8.out (by omega) (by omega) (Nat.le_of_lt HLT.out)).mono ?_
                    rintro e9 w9 ⟨v, rfl, ⟨qo, qn, qc, rfl, hrq, _⟩, hb9⟩
                    have Ra_9 := hid (Ra_8.out.below hb9)
                    have Rt_9 := hid (Rt_8.out.below hb9)
                    have HB_9 : Hid (Below w.heap.size w w9) := HB_8.out.trans (hb9.mono HB_8.out.size)
                    clear hb9
                    have HRQ := hid hrq
                    clear hrq
                    go_wp2
                    go_roundg (a2 + (b2 - a2))
                    case measure => rw [HGA.out]; have := HLT.out; have := HZ.out; have := hb2.out; omega
                    case rel =>
                      refine ⟨ao, qo, n, capa, qn, qc, a2, b2 - a2, rfl, ?_, ?_, ?_, rfl, rfl, ?_, ?_, Ra_9.out, HRQ.out, Rt_9.out, HB_9.out⟩
                      · have := HLT.out; show _ ≠ _; omega
                      · exact Nat.le_trans ha2.out hax.out
                      · have h1 := hb2.out; have h2 := hby.out; show _ ≤ _; omega
                      · show _ = _; rw [Nat.gcd_sub_self_right (Nat.le_of_lt HLT.out)]; exact hgt.out
                      · have := ha2o.out; show ¬ _; omega
                  · have hc := hge9 (by omega)
                    have HGE := hid (Nat.le_of_not_lt hlt)
                    clear hlt9 hge9 hlt
                    go_wp2_with fail
                    refine (pless_any ao bo n capa m capb a2 b2 _ Ra_8.out Rb_8.out (by omega) (by omega) HGE.out).mono ?_
                    rintro e10 w10 ⟨v, rfl, ⟨qo, qn, qc, rfl, hrq, _⟩, hb10⟩
                    have Rb_10 := hid (Rb_8.out.below hb10)
                    have Rt_10 := hid (Rt_8.out.below hb10)
                    have HB_10 : Hid (Below w.heap.size w w10) := HB_8.out.trans (hb10.mono HB_8.out.size)
                    clear hb10
                    have HRQ := hid hrq
                    clear hrq
                    go_wp2
                    go_roundg ((a2 - b2) + b2)
                    case measure => rw [HGA.out]; have := HGE.out; have := hb0.out; have := ha2.out; omega
                    case rel =>
                      refine ⟨qo, bo, qn, qc, m, capb, a2 - b2, b2, rfl, hb20.out, ?_, ?_, rfl, rfl, ?_, ?_, HRQ.out, Rb_10.out, Rt_10.out, HB_10.out⟩
                      · have h1 := ha2.out; have h2 := hax.out; show _ ≤ _; omega
                      · exact Nat.le_trans hb2.out hby.out
                      · show _ = _; rw [Nat.gcd_comm, Nat.gcd_sub_self_right HGE.out, Nat.gcd_comm]; exact hgt.out
                      · have := hb2o.out; show ¬ _; omega
    | true =>
      have HEV := hid hev
      have hae := hid (evB_true hev)
      clear hev
      go_wp2_with fail
      refine (peven_any ao n capa a _ Ra.out (by omega)).mono ?_
      rintro e1 w1 ⟨rfl, rfl⟩
      rw [HEV.out]
      clear HEV
      cases hev : evB b with
      | false =>
        have HEV := hid hev
        have hodd : Hid (¬ (a % 2 = 0 ∧ b % 2 = 0)) := by have := evB_false hev; show ¬ _; omega
        clear hev
        go_wp2_with fail
        refine (peven_any bo m capb b _ Rb.out (by omega)).mono ?_
        rintro e1 w1 ⟨rfl, rfl⟩
        rw [HEV.out]
        clear HEV hae
        go_wp2
        go_loopg [0, 1] (a + b) (fun g va vb wr => ∃ (ao bo : Option Addr) (n capa m capb a b : Nat), g = a + b ∧ Hid (b ≠ 0) ∧ Hid (a ≤ x) ∧ Hid (b ≤ y) ∧ va = .slice ao n capa ∧ vb = .slice bo m capb ∧ Hid (Nat.gcd a b * t = G) ∧ Hid (¬ (a % 2 = 0 ∧ b % 2 = 0)) ∧ Hid (Row wr ao n capa (limbs a)) ∧ Hid (Row wr bo m capb (limbs b)) ∧ Hid (Row wr to p capp (limbs t)) ∧ Hid (Below w.heap.size w wr))
        case atStart => exact ⟨ao, bo, n, capa, m, capb, a, b, rfl, hb0.out, hax.out, hby.out, rfl, rfl, hgt.out, hodd.out, Ra.out, Rb.out, Rt.out, hB.out⟩
        case round =>
          clear HGA Ra Rb Rt hB ha0 hax hb0 hby hgt hml hmy hnl hnx hodd
          obtain ⟨ao, bo, n, capa, m, capb, a, b, hga, hb0, hax, hby, rfl, rfl, hgt, hodd, Ra, Rb, Rt, hB⟩ := hrel
          have hnl := Ra.out.len
          have hml := Rb.out.len
          have hnx := @len_mono a x hax.out
          have hmy := @len_mono b y hby.out
          have HGA := hid hga
          clear hga
          by_cases hz : a = 0
          · have hn0 : n = 0 := by rw [← hnl, hz]; rfl
            have HE : Hid (b * t = G) := by have := hgt.out; rw [hz, Nat.gcd_zero_left] at this; exact this
            subst hn0
            go_wp2_with fail
            refine (ptimes_any bo to m capb p capp b t _ Rb.out Rt.out (by omega) (by omega)).mono ?_
            rintro e11 w11 ⟨v, rfl, hsl, hb11⟩
            have HB_11 : Hid (Below w.heap.size w w11) := hB.out.trans (hb11.mono hB.out.size)
            clear hb11
            rw [HE.out] at hsl
            have HSL := hid hsl
            clear hsl
            go_wp2
            go_ret
            obtain ⟨ro, rn, rc, rfl, hrw, hfr⟩ := HSL.out
            exact ⟨_, rfl, ⟨ro, rn, rc, rfl, hrw, hfr.mono hB.out.size⟩, HB_11.out⟩
          · have hnp : (0 : Int) < (n : Int) := by
              have h1 := limbs_ne_nil hz
              have h2 := List.length_pos_iff.2 h1
              omega
            have hnp2 : 0 < n := by omega
            have HZ := hid hz
            clear hz
            go_wp2
            go_loopg [0] a (fun g va wr => ∃ (ao : Option Addr) (n capa a2 : Nat), g = a2 ∧ Hid (a2 ≠ 0) ∧ Hid (a2 ≤ a) ∧ va = .slice ao n capa ∧ Hid (Nat.gcd a2 b * t = G) ∧ Hid (¬ (a2 % 2 = 0 ∧ b % 2 = 0)) ∧ Hid (Row wr ao n capa (limbs a2)) ∧ Hid (Row wr bo m capb (limbs b)) ∧ Hid (Row wr to p capp (limbs t)) ∧ Hid (Below w.heap.size w wr))
            case atStart => exact ⟨ao, n, capa, a, rfl, HZ.out, Nat.le_refl _, rfl, hgt.out, hodd.out, Ra.out, Rb.out, Rt.out, hB.out⟩
            case round =>
              clear Ra Rb Rt hB hnl hnp hnp2 hgt hodd
              obtain ⟨ao, n, capa, a2, hg2, ha20, ha2, rfl, hgt, hodd, Ra, Rb, Rt, hB⟩ := hrel
              have hnl := Ra.out.len
              have hna := @len_mono a2 a ha2.out
              have HG2 := hid hg2
              clear hg2
              cases hev : evB a2 with
              | true =>
                have ha2e := hid (evB_true hev)
                have HEV := hid hev
                clear hev
                go_wp2_with fail
                refine (peven_any ao n capa a2 _ Ra.out (by omega)).mono ?_
                rintro e12 w12 ⟨rfl, rfl⟩
                rw [HEV.out]
                go_wp2_with fail
                refine (phalf_any ao n capa a2 _ Ra.out (by omega)).mono ?_
                rintro e13 w13 ⟨v, rfl, ⟨qo, qn, qc, rfl, hrq, _⟩, hb13⟩
                have Rb_13 := hid (Rb.out.below hb13)
                have Rt_13 := hid (Rt.out.below hb13)
                have HB_13 : Hid (Below w.heap.size w w13) := hB.out.trans (hb13.mono hB.out.size)
                clear hb13
                have HRQ := hid hrq
                clear hrq
                go_wp2
                go_roundg (a2 / 2)
                case measure => rw [HG2.out]; have := ha20.out; omega
                case rel =>
                  refine ⟨qo, qn, qc, a2 / 2, rfl, ?_, ?_, rfl, ?_, ?_, HRQ.out, Rb_13.out, Rt_13.out, HB_13.out⟩
                  · have := ha20.out; have := ha2e.out; show _ ≠ _; omega
                  · have := ha2.out; show _ ≤ _; omega
                  · show _ = _; rw [gcd_odd a2 b ha2e.out (by have := hodd.out; have := ha2e.out; omega)]; exact hgt.out
                  · have h1 := hodd.out; have h2 := ha2e.out; show ¬ _; omega
              | false =>
                have ha2o := hid (evB_false hev)
                have HEV := hid hev
                clear hev hodd
                go_wp2_with fail
                refine (peven_any ao n capa a2 _ Ra.out (by omega)).mono ?_
                rintro e14 w14 ⟨rfl, rfl⟩
                rw [HEV.out]
                clear HEV
                go_wp2
                go_loopg [1] b (fun g vb wr => ∃ (bo : Option Addr) (m capb b2 : Nat), g = b2 ∧ Hid (b2 ≠ 0) ∧ Hid (b2 ≤ b) ∧ vb = .slice bo m capb ∧ Hid (Nat.gcd a2 b2 * t = G) ∧ Hid (Row wr ao n capa (limbs a2)) ∧ Hid (Row wr bo m capb (limbs b2)) ∧ Hid (Row wr to p capp (limbs t)) ∧ Hid (Below w.heap.size w wr))
                case atStart => exact ⟨bo, m, capb, b, rfl, hb0.out, Nat.le_refl _, rfl, hgt.out, Ra.out, Rb.out, Rt.out, hB.out⟩
                case round =>
                  clear Ra Rb Rt hB hml hgt
                  obtain ⟨bo, m, capb, b2, hg3, hb20, hb2, rfl, hgt, Ra, Rb, Rt, hB⟩ := hrel
                  have hml := Rb.out.len
                  have hmb := @len_mono b2 b hb2.out
                  have HG3 := hid hg3
                  clear hg3
                  cases hev : evB b2 with
                  | true =>
                    have hb2e := hid (evB_true hev)
                    have HEV := hid hev
                    clear hev
                    go_wp2_with fail
                    refine (peven_any bo m capb b2 _ Rb.out (by omega)).mono ?_
                    rintro e15 w15 ⟨rfl, rfl⟩
                    rw [HEV.out]
                    go_wp2_with fail
                    refine (phalf_any bo m capb b2 _ Rb.out (by omega)).mono ?_
                    rintro e16 w16 ⟨v, rfl, ⟨qo, qn, qc, rfl, hrq, _⟩, hb16⟩
                    have Ra_16 := hid (Ra.out.below hb16)
                    have Rt_16 := hid (Rt.out.below hb16)
                    have HB_16 : Hid (Below w.heap.size w w16) := hB.out.trans (hb16.mono hB.out.size)
                    clear hb16
                    have HRQ := hid hrq
                    clear hrq
                    go_wp2
                    go_roundg (b2 / 2)
                    case measure => rw [HG3.out]; have := hb20.out; omega
                    case rel =>
                      refine ⟨qo, qn, qc, b2 / 2, rfl, ?_, ?_, rfl, ?_, Ra_16.out, HRQ.out, Rt_16.out, HB_16.out⟩
                      · have := hb20.out; have := hb2e.out; show _ ≠ _; omega
                      · have := hb2.out; show _ ≤ _; omega
                      · show _ = _; rw [Nat.gcd_comm, gcd_odd b2 a2 hb2e.out ha2o.out, Nat.gcd_comm]; exact hgt.out
                  | false =>
                    have hb2o := hid (evB_false hev)
                    have HEV := hid hev
                    clear hev
                    go_wp2_with fail
                    refine (peven_any bo m capb b2 _ Rb.out (by omega)).mono ?_
                    rintro e17 w17 ⟨rfl, rfl⟩
                    rw [HEV.out]
                    clear HEV
                    go_wp2_with fail
                    refine (pcmp_any ao bo n capa m capb a2 b2 _ Ra.out Rb.out (by omega) (by omega)).mono ?_
                    rintro e18 w18 ⟨rfl, hb18⟩
                    have Ra_18 := hid (Ra.out.below hb18)
                    have Rb_18 := hid (Rb.out.below hb18)
                    have Rt_18 := hid (Rt.out.below hb18)
                    have HB_18 : Hid (Below w.heap.size w w18) := hB.out.trans (hb18.mono hB.out.size)
                    clear hb18
                    obtain ⟨c0, c1⟩ := cmp3_bd (a2 : Int) (b2 : Int)
                    have hlt9 : a2 < b2 → cmp3 (a2 : Int) (b2 : Int) = -1 := fun h => by unfold cmp3; rw [if_pos (by omega)]
                    have hge9 : b2 ≤ a2 → 0 ≤ cmp3 (a2 : Int) (b2 : Int) := fun h => by unfold cmp3; rw [if_neg (by omega)]; split <;> omega
                    generalize cmp3 (a2 : Int) (b2 : Int) = C at *
                    by_cases hlt : a2 < b2
                    · have hc := hlt9 hlt
                      subst hc
                      have HLT := hid hlt
                      clear hlt9 hge9 hlt
                      go_wp2_with fail
                      refine (pless_any bo ao m capb n capa b2 a2 _ Rb_18.out Ra_18.out (by omega) (by omega) (Nat.le_of_lt HLT.out)).mono ?_
                      rintro e19 w19 ⟨v, rfl, ⟨qo, qn, qc, rfl, hrq, _⟩, hb19⟩
                      have Ra_19 := hid (Ra_18.out.below hb19)
                      have Rt_19 := hid (Rt_18.out.below hb19)
                      have HB_19 : Hid (Below w.heap.size w w19) := HB_18.out.trans (hb19.mono HB_18.out.size)
                      clear hb19
                      have HRQ := hid hrq
                      clear hrq
                      go_wp2
                      go_roundg (a2 + (b2 - a2))
                      case measure => rw [HGA.out]; have := HLT.out; have := HZ.out; have := hb2.out; omega
                      case rel =>
                        refine ⟨ao, qo, n, capa, qn, qc, a2, b2 - a2, rfl, ?_, ?_, ?_, rfl, rfl, ?_, ?_, Ra_19.out, HRQ.out, Rt_19.out, HB_19.out⟩
                        · have := HLT.out; show _ ≠ _; omega
                        · exact Nat.le_trans ha2.out hax.out
                        · have h1 := hb2.out; have h2 := hby.out; show _ ≤ _; omega
                        · show _ = _; rw [Nat.gcd_sub_self_right (Nat.le_of_lt HLT.out)]; exact hgt.out
                        · have := ha2o.out; show ¬ _; omega
                    · have hc := hge9 (by omega)
                      have HGE := hid (Nat.le_of_not_lt hlt)
                      clear hlt9 hge9 hlt
                      go_wp2_with fail
                      refine (pless_any ao bo n capa m capb a2 b2 _ Ra_18.out Rb_18.out (by omega) (by omega) HGE.out).mono ?_
                      rintro e20 w20 ⟨v, rfl, ⟨qo, qn, qc, rfl, hrq, _⟩, hb20⟩
                      have Rb_20 := hid (Rb_18.out.below hb20)
                      have Rt_20 := hid (Rt_18.out.below hb20)
                      have HB_20 : Hid (Below w.heap.size w w20) := HB_18.out.trans (hb20.mono HB_18.out.size)
                      clear hb20
                      have HRQ := hid hrq
                      clear hrq
                      go_wp2
                      go_roundg ((a2 - b2) + b2)
                      case measure => rw [HGA.out]; have := HGE.out; have := hb0.out; have := ha2.out; omega
                      case rel =>
                        refine ⟨qo, bo, qn, qc, m, capb, a2 - b2, b2, rfl, hb20.out, ?_, ?_, rfl, rfl, ?_, ?_, HRQ.out, Rb_20.out, Rt_20.out, HB_20.out⟩
                        · have h1 := ha2.out; have h2 := hax.out; show _ ≤ _; omega
                        · exact Nat.le_trans hb2.out hby.out
                        · show _ = _; rw [Nat.gcd_comm, Nat.gcd_sub_self_right HGE.out, Nat.gcd_comm]; exact hgt.out
                        · have := hb2o.out; show ¬ _; omega
      | true =>
        have HEV := hid hev
        have hbe := hid (evB_true hev)
        clear hev
        go_wp2_with fail
        refine (peven_any bo m capb b _ Rb.out (by omega)).mono ?_
        rintro e1 w1 ⟨rfl, rfl⟩
        rw [HEV.out]
        clear HEV
        go_wp2_with fail
        refine (phalf_any ao n capa a _ Ra.out (by omega)).mono ?_
        rintro e21 w21 ⟨v, rfl, ⟨qo, qn, qc, rfl, hrq, _⟩, hb21⟩
        have Rb_21 := hid (Rb.out.below hb21)
        have Rt_21 := hid (Rt.out.below hb21)
        have HB_21 : Hid (Below w.heap.size w w21) := hB.out.trans (hb21.mono hB.out.size)
        clear hb21
        have HRQ := hid hrq
        clear hrq
        go_wp2_with fail
        refine (phalf_any bo m capb b _ Rb_21.out (by omega)).mono ?_
        rintro e22 w22 ⟨v, rfl, ⟨so, sn, sc, rfl, hrs, _⟩, hb22⟩
        have Rq_22 := hid (HRQ.out.below hb22)
        have Rt_22 := hid (Rt_21.out.below hb22)
        have HB_22 : Hid (Below w.heap.size w w22) := HB_21.out.trans (hb22.mono HB_21.out.size)
        clear hb22
        have HRS := hid hrs
        clear hrs
        go_wp2_with fail
        refine (pplus_any to to p capp p capp t t _ Rt_22.out Rt_22.out (by omega) (by omega)).mono ?_
        rintro e23 w23 ⟨v, rfl, ⟨uo, un, uc, rfl, hru, _⟩, hb23⟩
        have Rq_23 := hid (Rq_22.out.below hb23)
        have Rs_23 := hid (HRS.out.below hb23)
        have HB_23 : Hid (Below w.heap.size w w23) := HB_22.out.trans (hb23.mono HB_22.out.size)
        clear hb23
        have HRU := hid hru
        clear hru
        go_wp2
        go_roundg (a / 2)
        case measure => rw [HGA.out]; have := ha0.out; omega
        case rel =>
          refine ⟨qo, so, uo, qn, qc, sn, sc, un, uc, a / 2, b / 2, t + t, rfl, ?_, ?_, ?_, ?_, rfl, rfl, rfl, gcd_both a b t G hae.out hbe.out hgt.out, Rq_23.out, Rs_23.out, HRU.out, HB_23.out⟩
          · have := ha0.out; have := hae.out; show _ ≠ _; omega
          · have := hb0.out; have := hbe.out; show _ ≠ _; omega
          · have := hax.out; show _ ≤ _; omega
          · have := hby.out; show _ ≤ _; omega
end Go.Proofs.YtddbflggcblfcaaDoor
