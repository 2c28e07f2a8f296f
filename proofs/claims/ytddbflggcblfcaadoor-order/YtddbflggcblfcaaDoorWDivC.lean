/- natural.takeOffAll: division on paper. -/
import Derived.Test.YtddbflggcblfcaaDoorWDivB
import Derived.Test.YtddbflggcblfcaaDoorWMul
namespace Go.Proofs.YtddbflggcblfcaaDoor
set_option linter.unusedSimpArgs false
set_option linter.unusedVariables false
open Go.RowKit Por

theorem top_small (X : List Int) (m : Nat) (hX : Lim X) (hl : X.length = m + 1) (h0 : lm X m = 0) : val X < 10000 ^ m := by
  have h1 := val_top X m hl
  have h2 := val_lt (lim_take hX m)
  rw [List.length_take, Nat.min_eq_left (by omega)] at h2
  rw [h0] at h1; omega
theorem top_great (B : List Int) (m : Nat) (hB : Lim B) (hl : B.length = m + 1) (h0 : 1 ≤ lm B m) : (10000 : Int) ^ m ≤ val B := by
  have h1 := val_top B m hl
  have h2 := val_nonneg (lim_take hB m)
  have : (10000 : Int) ^ m * 1 ≤ 10000 ^ m * lm B m := Int.mul_le_mul_of_nonneg_left h0 (Int.le_of_lt (Int.pow_pos (by omega)))
  omega
theorem pow_mono (a b : Nat) (h : a ≤ b) : (10000 : Int) ^ a ≤ 10000 ^ b := by
  have h4 : (10000 : Nat) ^ a ≤ 10000 ^ b := Nat.pow_le_pow_right (by omega) h
  have e1 : ((10000 ^ a : Nat) : Int) = 10000 ^ a := Int.natCast_pow 10000 _
  have e2 : ((10000 ^ b : Nat) : Int) = 10000 ^ b := Int.natCast_pow 10000 _
  omega

/-- what division leaves -/
structure Div (Z B Q Z' : List Int) : Prop where
  limQ : Lim Q
  limZ : Lim Z'
  len : Z'.length = Z.length
  sum : val Q * val B + val Z' = val Z
  small : val Z' < val B

/-- the round of a division -/
theorem div_step {Z B Q Y Y' : List Int} {i n qn : Nat} {q : Int} (hsum : val Q * val B + val Y = val Z) (hq0 : lm Q i = 0) (hi : i < Q.length) (hw : Win Y Y' i (n + 1 + 1) (q * val B)) (hle : i + (n + 1 + 1) ≤ Y.length)
    (he : val ((Y.drop i).take (n + 1 + 1)) = val (Y.drop i)) (hs : val ((Y'.drop i).take (n + 1 + 1)) < val B) :
    val (Q.set i q) * val B + val Y' = val Z ∧ val (Y'.drop i) < val B := by
  have h1 := hw.all hle
  have h2 := hw.drop hle
  have h3 := hw.win
  refine ⟨?_, by omega⟩
  rw [val_set Q i q hi, hq0, h1]
  generalize (10000 : Int) ^ i = P at *
  grind

set_option maxHeartbeats 1000000 in
theorem takeOffAll_short (g L capb m : Nat) (bo : Option Addr) (w : World) (h : m = 0 ∨ L ≤ m) (hL : L ≤ 60000) (hm : m ≤ 60000) :
    Calls Tryd.prog 146 #[.slice (some ⟨g, 0, none⟩) L L, .slice bo m capb] w fun e w' => e = .returned (.slice none 0 0) ∧ w' = w := by
  by_cases h0 : m = 0
  · subst h0
    go_enter Tryd.func146, Tryd.ntmps146
    go_wp2
    go_ret
    exact ⟨rfl, rfl⟩
  · have h0' : ((m : Int) == 0) = false := by simp; omega
    have h1 : (L : Int) ≤ (m : Int) := by omega
    go_enter Tryd.func146, Tryd.ntmps146
    go_wp2
    go_ret
    exact ⟨rfl, rfl⟩

set_option maxHeartbeats 1000000 in
theorem takeOffAll_long (g L capb n : Nat) (bo : Option Addr) (Z B : List Int) (w : World) (hk : Blk w g Z) (hl : Z.length = L) (hs : Row w bo (n + 1) capb B) (hne : ∀ b o', bo = some ⟨b, o', none⟩ → b ≠ g)
    (hZ : Lim Z) (hB : Lim B) (htop : 1 ≤ lm B n) (hz : lm Z (L - 1) = 0) (hn : n + 1 < L) (hL : L ≤ 50000) :
    Calls Tryd.prog 146 #[.slice (some ⟨g, 0, none⟩) L L, .slice bo (n + 1 : Nat) capb] w fun e w' =>
      ∃ (qo : Option Addr) (qn qcap : Nat) (Q Z' : List Int), e = .returned (.slice qo qn qcap) ∧ qn ≤ L ∧ Div Z B Q Z' ∧ Row w' qo qn qcap Q ∧ Blk w' g Z' ∧ w.grownBy w' (some g) := by
  have l2 := hs.len
  have h0' : (((n : Int) + 1) == 0) = false := by rw [beq_eq_false_iff_ne]; omega
  have h1' : decide ((L : Int) ≤ (n : Int) + 1) = false := by rw [decide_eq_false_iff_not]; omega
  have hgw := hk.lt
  have hV1 := hid (top_great B n hB l2 htop)
  have hV2 := hid (Int.le_of_lt (val_lt hB))
  have hst : Hid (val (Z.drop (L - (n + 1))) < val B) := by
    have := top_small (Z.drop (L - (n + 1))) n (lim_drop hZ _) (by rw [List.length_drop]; omega) (by rw [lm_drop, show L - (n + 1) + n = L - 1 by omega]; exact hz)
    have h2 := hV1.out
    show _ < _
    omega
  have HK := hid hk
  have HS := hid hs
  have HNE := hid hne
  clear hk hs hne
  go_enter Tryd.func146, Tryd.ntmps146
  go_wp2_with (at_make; refine wpList_make_ints _ rfl _ _ rfl _ _ (L - (n + 1)) rfl rfl (by omega) (by omega) (by omega) ?_)
  intro w1 hk1 hb1 hz1
  have HK1 := hid hk1
  have HB1 := hid hb1
  obtain ⟨G, hG⟩ : ∃ G, G = w.heap.size := ⟨_, rfl⟩
  have hgG : g < G := by omega
  have hGw : w.heap.size ≤ G := by omega
  rw [← hG] at HK1 ⊢
  clear hk1 hb1 hG
  go_wp2
  go_loopw [6] (fun vi wr => ∃ (k : Nat) (Q Y : List Int), k ≤ L - (n + 1) ∧ vi = .int .i64 ((k : Int) - 1) ∧ Q.length = L - (n + 1) ∧ Y.length = L ∧ Hid (Lim Q) ∧ Hid (Lim Y) ∧ Hid (val Q * val B + val Y = val Z) ∧ Hid (val (Y.drop k) < val B) ∧
      Hid (∀ t, t < k → lm Q t = 0) ∧ Hid (Blk wr G Q) ∧ Hid (Blk wr g Y) ∧ Hid (w.grownBy wr (some g))) (fun vi _ => (intOf vi + 1).toNat)
  case atStart =>
    refine ⟨L - (n + 1), _, Z, Nat.le_refl _, by go_num, by simp, hl, lim_replicate _, hZ, by simp [Hid, val_replicate], hst.out, fun t _ => lm_replicate _ t, HK1.out, HK.out.below HB1.out (by omega), grown_below (World.grownBy.refl _ _) HB1.out⟩
  case round =>
    obtain ⟨k, Q, Y, hk, rfl, hql, hyl, hQL, hYL, hsum, hsm, hq0, hbQ, hbY, hg⟩ := hrel
    by_cases k0 : k = 0
    · subst k0
      go_wp2
      go_ret
      have hrow := Blk.row0 hbQ.out (L - (n + 1)) (L - (n + 1)) hql.symm (Nat.le_refl _) (by unfold maxLen; omega)
      exact ⟨_, _, _, Q, Y, rfl, by omega, ⟨hQL.out, hYL.out, by omega, hsum.out, by have := hsm.out; rwa [List.drop_zero] at this⟩, hrow, hbY.out, hg.out⟩
    · obtain ⟨i, rfl⟩ : ∃ i, k = i + 1 := ⟨k - 1, by omega⟩
      have hq1 : (0 : Int) ≤ ((i + 1 : Nat) : Int) - 1 := by omega
      have hrs := hid (HS.out.grown hg.out HNE.out)
      have hwin := hid (val_window Y i (n + 1) (val B) hYL.out (by have := hV2.out; rwa [l2] at this) (by omega) hsm.out)
      go_wp2_with fail
      rw [show i + (n + 1) + 1 - i = n + 1 + 1 from by omega]
      refine (takeOff_any g i n (L - i) capb bo Y B _ hbY.out (by omega) (by omega) (by unfold maxLen; omega) hrs.out HNE.out hYL.out hB htop (by rw [hwin.out.1]; exact hwin.out.2.1) (by omega)).mono ?_
      rintro e w3 ⟨q, Y1, rfl, q0, q1, hw1, hl1, hs1, hk1, hg1⟩
      have hGr : G < wr.heap.size := hbQ.out.lt
      have HQ3 : Hid (Blk w3 G Q) := (hg1.block G hGr (by intro e; cases e; omega)).trans hbQ.out
      have g1 := HQ3.out.cell i (by omega)
      have g2 := HQ3.out.frozen i
      have HD := hid (div_step (qn := L) hsum.out (hq0.out i (by omega)) (by omega) hw1 (by omega) hwin.out.1 hs1)
      have hy1l : Y1.length = L := by have := hw1.len; omega
      have HK3 := hid hk1
      have HL1 := hid hl1
      have HG3 := hid (grown_trans hg.out hg1)
      clear hw1 hs1 hk1 hg1 hl1
      go_wp2
      go_roundw
      case rel =>
        refine ⟨i, Q.set i q, Y1, by omega, by go_num, by simpa using hql, hy1l, lim_set hQL.out i q q0 q1, HL1.out, HD.out.1, HD.out.2, fun t ht => (lm_set Q i t q (by omega)).trans (hq0.out t (by omega)), HQ3.out.set i q, HK3.out.other _ _ (by show G ≠ g; omega), ?_⟩
        exact ⟨HG3.out.os, HG3.out.tape, HG3.out.output, by simpa [World.setCell] using HG3.out.size, fun t ht hne => (Below.heap_setCell w3 _ _ t (by show t ≠ G; omega)).trans (HG3.out.block t ht hne)⟩
      case measure => simp [intOf]
end Go.Proofs.YtddbflggcblfcaaDoor
