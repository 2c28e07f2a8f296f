/- portionkeep pick, sharing. (Laid by mkshr.py.) -/
import Derived.Test.YtigokanoflkinaaDoorKConA
import Derived.Test.YtigokanoflkinaaDoorRefBas
import Derived.Deep.RegionHeld3
import Derived.Deep.DeepCutAuto
namespace Go.Proofs.YtigokanoflkinaaDoor
set_option linter.unusedSimpArgs false
set_option linter.unusedVariables false
open Go.RowKit Por

set_option maxHeartbeats 2000000 in
set_option maxRecDepth 20000 in
theorem kpick_big (c : Int) (n : Nat) (w : World) (h0 : -9223372036854775808 ≤ c) (h1 : c ≤ 9223372036854775807) (hn : 0 < n) (hn2 : n ≤ 2000000) :
    Calls Tryd.prog 45 #[.int .i64 c, .int .i64 n] w fun e w' => (∃ p : Nat, p < n ∧ e = .returned (.int .i64 p)) ∧ w = w' := by
  have hz : ((n : Int) == 0) = false := beq_eq_false_iff_ne.2 (by omega)
  have key : ∀ x : Int, 0 ≤ x → ∃ p : Nat, p < n ∧ Int.tmod x n = p := fun x hx => by
    have h3 := Int.emod_nonneg x (show (n : Int) ≠ 0 by omega)
    have h4 := Int.emod_lt_of_pos x (show (0 : Int) < n by omega)
    refine ⟨(x % n).toNat, by omega, ?_⟩
    rw [Int.tmod_eq_emod_of_nonneg hx]; omega
  by_cases hc : c < 0
  · obtain ⟨p, hp, e⟩ := key (-(c + 1)) (by omega)
    have HE := hid e; clear e
    have HKY := hid key; clear key
    go_enter Tryd.func45, Tryd.ntmps45
    go_wp2
    go_ret
    exact ⟨⟨p, hp, by rw [← HE.out, Int.neg_tmod]; rfl⟩, rfl⟩
  · obtain ⟨p, hp, e⟩ := key c (by omega)
    have HE := hid e; clear e
    have HKY := hid key; clear key
    go_enter Tryd.func45, Tryd.ntmps45
    go_wp2
    go_ret
    exact ⟨⟨p, hp, by rw [← HE.out, Int.tmod_eq_emod_of_nonneg (by omega)]; rfl⟩, rfl⟩
theorem capm_rng {c m : Int} (hc : 0 ≤ c ∧ c ≤ 1000) (hm : 1 ≤ m ∧ m ≤ 1000) : 0 ≤ c * m ∧ c * m ≤ 1000000 := by
  have h1 : 0 ≤ c * m := Int.mul_nonneg hc.1 (by omega)
  have h2 : c * m ≤ 1000 * 1000 := Int.mul_le_mul hc.2 hm.2 (by omega) (by omega)
  omega
/-- the first k of another sharing -/
def ShrOk (us : List Usr) (m : Int) (ys : List Int) (k : Nat) : Prop := ys.length = k ∧ ∀ i, i < k → 0 ≤ lm ys i ∧ lm ys i ≤ (ug us i).cap * m
theorem lm_append {ys : List Int} {v : Int} {i : Nat} (h : i < ys.length) : lm (ys ++ [v]) i = lm ys i := by
  unfold lm; rw [List.getD_eq_getElem?_getD, List.getD_eq_getElem?_getD, List.getElem?_append_left h]
theorem lm_last (ys : List Int) (v : Int) : lm (ys ++ [v]) ys.length = v := by
  unfold lm; rw [List.getD_eq_getElem?_getD, List.getElem?_append_right (Nat.le_refl _)]; simp
theorem ShrOk.step {us : List Usr} {m : Int} {ys : List Int} {k : Nat} (h : ShrOk us m ys k) {v : Int} (hv : 0 ≤ v ∧ v ≤ (ug us k).cap * m) : ShrOk us m (ys ++ [v]) (k + 1) := by
  obtain ⟨h1, h2⟩ := h
  subst h1
  refine ⟨by simp, fun i hi => ?_⟩
  by_cases e : i = ys.length
  · subst e; rw [lm_last]; exact hv
  · rw [lm_append (by omega)]; exact h2 i (by omega)

set_option maxHeartbeats 2000000 in
set_option maxRecDepth 20000 in
theorem sharing_any (ao : Option Addr) (n cap : Nat) (us : List Usr) (no : Option Addr) (nn nc : Nat) (ns : List Int) (m : Int) (kk : Nat) (w : World) (hu : Users w ao n cap us) (hg : Good us kk) (hn6 : us.length ≤ 6) (hn : Arr w 1 no nn nc (ints ns)) (hr : ∀ i, i < nn → -9223372036854775808 ≤ lm ns i ∧ lm ns i ≤ 9223372036854775807) (hm : 1 ≤ m ∧ m ≤ 1000) :
    Calls Tryd.prog 46 #[.slice ao n cap, .slice no nn nc, .int .i64 m] w fun e w' => ∃ v ys, e = .returned v ∧ Own w.heap.size w' v ys ∧ ShrOk us m ys us.length ∧ Below w.heap.size w w' := by
  have hul := hu.1
  subst hul
  have hnl := hn.len
  rw [ints_len] at hnl
  have hnm := Nat.le_trans hn.le hn.cm
  unfold maxLen at hnm
  have HU := hid hu
  have HN := hid hn
  have HG := hid hg
  have HR := hid hr
  clear hu hn hg hr
  have HB_0 := hid (Below.refl w.heap.size w)
  go_enter Tryd.func46, Tryd.ntmps46
  go_wp2
  go_loopg [7, 8] us.length (fun gg s9 ix wr => ∃ (k : Nat) (v9 : Value) (ys : List Int), v9 = s9 ∧ gg = us.length - k ∧ k ≤ us.length ∧ ix = .int .i64 k ∧ Hid (ShrOk us m ys k) ∧ Hid (Own w.heap.size wr v9 ys) ∧ Hid (Below w.heap.size w wr))
  case atStart => exact ⟨0, _, [], rfl, rfl, Nat.zero_le _, rfl, ⟨rfl, fun i hi => by omega⟩, World.ownsRow_nil _ _ _ _, HB_0.out⟩
  case round =>
    clear HB_0
    obtain ⟨k, v9, ys, rfl, hgk, hk, rfl, hS, hO, hB⟩ := hrel
    have hyl := hS.out.1
    by_cases hlt : k < us.length
    · have hcp := HG.out.cap hlt
      have hcm := capm_rng hcp hm
      by_cases hkn : k < nn
      · obtain ⟨ub, uo, da, dn, dc, hao, hbl, a0, a1, a2, hd⟩ := (HU.out.below hB.out).get hlt
        subst hao
        obtain ⟨nb, no1, hno, hnb⟩ := (HN.out.below hB.out).head (by omega)
        have c0 := (HN.out.below hB.out).int hno hkn
        subst hno
        have hrk := HR.out k hkn
        generalize lm ns k = z at c0 hrk
        have hki : (k : Int) < (us.length : Int) := by omega
        have hki2 : (k : Int) < (nn : Int) := by omega
        clear a0 a1 hd
        have HCE : Hid (((ug us k).cap) = (ug us k).cap) := rfl
        generalize hcc : (ug us k).cap = c at a2 hcp hcm
        have HC := hid hcc
        clear hcc HCE
        obtain ⟨hc0, hc1⟩ := hcm
        obtain ⟨q, hq⟩ : ∃ q : Nat, c * m = q := ⟨(c * m).toNat, by omega⟩
        have hq2 : q ≤ 1000000 := by omega
        go_upto_region 7 with fail
        have HKP : Hid (∀ U, Below wr.heap.size wr U → Calls Tryd.prog 45 #[.int .i64 z, .int .i64 (IntKind.i64.wrap (IntKind.i64.wrap (q : Int) + 1))] U (fun e w' => (∃ p : Nat, p < q + 1 ∧ e = .returned (.int .i64 p)) ∧ Below wr.heap.size wr w')) := fun U hU => by
          have e : IntKind.i64.wrap (IntKind.i64.wrap (q : Int) + 1) = ((q + 1 : Nat) : Int) := by rw [Go.IntWalk.i64_in (q : Int) ⟨by omega, by omega⟩, Go.IntWalk.i64_in ((q : Int) + 1) ⟨by omega, by omega⟩]; rfl
          rw [e]
          exact (kpick_big z (q + 1) U hrk.1 hrk.2 (by omega) (by omega)).mono (fun e w' ⟨h1, h2⟩ => ⟨h1, h2 ▸ hU⟩)
        have SK : Hid (∀ U, Below wr.heap.size wr U → U.cell? ⟨nb, no1 + k, none⟩ = some (.int .i64 z) ∧ U.cell? ⟨ub, uo + k * 3 + 2, none⟩ = some (.int .i64 c)) := fun U h => ⟨(h.cell (p := ⟨nb, no1 + k, none⟩) hnb).trans c0, (h.cell (p := ⟨ub, uo + k * 3 + 2, none⟩) hbl).trans a2⟩
        have d0 : wr.drew.cell? ⟨nb, no1 + k, none⟩ = some (.int .i64 z) := (SK.out _ (Below.refl _ _).drew).1
        have d1 : wr.drew.cell? ⟨ub, uo + k * 3 + 2, none⟩ = some (.int .i64 c) := (SK.out _ (Below.refl _ _).drew).2
        go_region_held3 (fun w' => w'.cell? ⟨nb, no1 + k, none⟩ = some (.int .i64 z) ∧ w'.cell? ⟨ub, uo + k * 3 + 2, none⟩ = some (.int .i64 c)) (first | exact SK.out _ (Below.refl _ _).drew | exact SK.out _ hb7)
          (first | (go_at_call 45; refine (HKP.out _ ?hU).mono ?_; (case hU => exact (Below.refl _ _).drew); rintro e7 w7 ⟨⟨p, hp, rfl⟩, hb7⟩))
        clear SK HKP d0 d1 c0 a2
        have Ro_21 := hid (hO.out.below hb7)
        have HB_21 : Hid (Below w.heap.size w w7) := hB.out.trans (hb7.mono hB.out.size)
        clear hO hB
        clear hb7
        have leW : w.heap.size ≤ w7.heap.size := HB_21.out.size
        go_wp2_with (at_builtin; refine wpList_append_ints _ rfl _ _ rfl w.heap.size _ ys ⟨w7.heap.size, 0, none⟩ 1 1 [(p : Int)] rfl rfl (Ro_21.out.below ((Below.refl _ _).alloc (Nat.le_refl _) _)) rfl (fun j hj => match j, hj with | 0, _ => (bx_new w7 #[.int .i64 ((p : Int))] 3).cell 0 _ rfl | j + 1, hj => absurd hj (by omega)) (by omega) (by simp only [World.size_alloc]; omega) ?_)
        intro v' w' hO2 hB2
        have HO2 := hid hO2
        have HB2 : Hid (Below w.heap.size w w') := (HB_21.out.alloc HB_21.out.size _).trans hB2
        clear hO2 hB2
        have HS2 : Hid (ShrOk us m (ys ++ [(p : Int)]) (k + 1)) := hS.out.step (⟨by omega, by rw [HC.out]; omega⟩)
        go_wp2
        go_roundg (us.length - (k + 1))
        case measure => omega
        case rel => exact ⟨k + 1, _, _, rfl, rfl, by omega, by go_num, HS2.out, HO2.out, HB2.out⟩
      · have hki2 : ¬ ((k : Int) < (nn : Int)) := by omega
        go_upto_region 8 with fail
        have leW : w.heap.size ≤ wr.heap.size := hB.out.size
        go_wp2_with (at_builtin; refine wpList_append_ints _ rfl _ _ rfl w.heap.size _ ys ⟨wr.heap.size, 0, none⟩ 1 1 [0] rfl rfl (hO.out.below ((Below.refl _ _).alloc (Nat.le_refl _) _)) rfl (fun j hj => match j, hj with | 0, _ => (bx_new wr #[.int .i64 (0)] 3).cell 0 _ rfl | j + 1, hj => absurd hj (by omega)) (by omega) (by simp only [World.size_alloc]; omega) ?_)
        intro v' w' hO2 hB2
        have HO2 := hid hO2
        have HB2 : Hid (Below w.heap.size w w') := (hB.out.alloc hB.out.size _).trans hB2
        clear hO2 hB2
        have HS2 : Hid (ShrOk us m (ys ++ [0]) (k + 1)) := hS.out.step (⟨Int.le_refl _, hcm.1⟩)
        go_wp2
        go_roundg (us.length - (k + 1))
        case measure => omega
        case rel => exact ⟨k + 1, _, _, rfl, rfl, by omega, by go_num, HS2.out, HO2.out, HB2.out⟩
    · obtain rfl : k = us.length := by omega
      go_wp2
      go_ret
      exact ⟨_, ys, rfl, hO.out, hS.out, hB.out⟩

end Go.Proofs.YtigokanoflkinaaDoor
