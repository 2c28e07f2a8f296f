/- portionref.told: the digits of any number. -/
import Derived.Test.YtddbflggcblfcaaDoorRefBD
import Derived.Test.YtddbflggcblfcaaDoorRefH
import Derived.Test.YtddbflggcblfcaaDoorWText
namespace Go.Proofs.YtddbflggcblfcaaDoor
set_option linter.unusedSimpArgs false
set_option linter.unusedVariables false
open Go.RowKit Por
open Go.Lib (decDigits)

/-- A row of bytes of the call's own. -/
def OwnB (base : Nat) (w : World) (v : Value) (l : List UInt8) : Prop := w.ownsRow base 5 1 v l.length (l.map fun c => Value.int .u8 c.toNat)
theorem OwnB.nil (base : Nat) (w : World) : OwnB base w (.slice none 0 0) [] := ⟨rfl, .inl ⟨rfl, rfl⟩⟩
theorem OwnB.below {base : Nat} {w w' : World} {v : Value} {l : List UInt8} (h : OwnB base w v l) (hb : Below w.heap.size w w') : OwnB base w' v l := by
  obtain ⟨h0, h⟩ := h
  refine ⟨h0, ?_⟩
  rcases h with h | ⟨g, cap, cur, h1, h2, h3, h4⟩
  · exact .inl h
  · exact .inr ⟨g, cap, cur, h1, h2, (hb.block g (Array.getElem?_eq_some_iff.1 h3).1).trans h3, h4⟩
theorem OwnB.shape {base : Nat} {w : World} {v : Value} {l : List UInt8} (h : OwnB base w v l) : ∃ ao cap, v = .slice ao l.length cap := by
  rcases h.2 with ⟨rfl, h0⟩ | ⟨g, cap, cur, rfl, _⟩
  · exact ⟨none, 0, by rw [h0]⟩
  · exact ⟨_, _, rfl⟩
theorem wpList_append_b (w : World) {ops : Array Oper} {rest : List Oper} {o : Oper} {a : Act} {Q : Exit → Act → World → Prop} (hgd : o.guard = none) (s x : Operand)
    (hop : o.op = Op.call { callee := Callee.builtin Builtin.append, args := #[s, x], argTypes := #[140, 140] })
    (base : Nat) (v : Value) (l : List UInt8) (c : UInt8) (ad : Addr) (hs : a.eval s = v) (hx : a.eval x = .slice (some ad) 1 1) (hown : OwnB base w v l) (hc : w.cell? ad = some (.int .u8 c.toNat))
    (hle : l.length ≤ 1000000) (hb : base ≤ w.heap.size)
    (h : ∀ v' w', OwnB base w' v' (l ++ [c]) → Below base w w' → wpList Tryd.prog ops Q rest (a.put o.dst v') w') : wpList Tryd.prog ops Q (o :: rest) a w := by
  obtain ⟨i, hi, hz0, hz1, hz2⟩ := info_parts Tryd.infoByte
  have hob : ∀ k, v.ownBlock = some k → base ≤ k := by
    intro k hk
    rcases hown.2 with ⟨rfl, _⟩ | ⟨g, cap, cur, rfl, h2, _⟩
    · cases hk
    · cases hk; exact h2
  refine wpList_append_own w hgd s x _ hop base 5 i (.int .u8 0) 1 1 Tryd.underlying140 hi hz0 hz1 hz2 rfl (by decide) v l.length _ hs hown ad 1 1 [.int .u8 c.toNat] hx rfl ?_ ?_ (by unfold maxLen; omega) (by omega) hb ?_
  · intro j u hj
    match j, hj with
    | 0, hj => simp at hj; subst hj; simpa [Addr.add] using hc
  · intro u hu
    simp at hu; subst hu; rfl
  · intro v' w' h2 h3 _
    refine h v' w' ?_ ((Below.refl base w).grown h3 hb hob)
    unfold OwnB
    rw [List.length_append, List.map_append]
    exact h2

/-- the digits of y; none of 0 -/
def tl (y : Nat) : List UInt8 := if y = 0 then [] else decDigits y
theorem tl_more (y d : Nat) (hd : d ≤ 9) (h : y ≠ 0 ∨ d ≠ 0) : tl y ++ [UInt8.ofNat (48 + d)] = tl (10 * y + d) := by
  unfold tl
  by_cases hy : y = 0
  · subst hy
    rw [if_pos rfl, if_neg (by omega), List.nil_append, dec_small (by omega)]
    congr 2; omega
  · rw [if_neg hy, if_neg (by omega), dec_big (n := 10 * y + d) (by omega), show (10 * y + d) / 10 = y by omega, show (10 * y + d) % 10 = d by omega]
theorem tl_zero : tl 0 = [] := rfl
theorem lm_div (x j : Nat) : lm (limbs x) j = ((x / 10000 ^ j % 10000 : Nat) : Int) := by
  induction j generalizing x with
  | zero => rw [lm_zero]; simp
  | succ j ih =>
    by_cases h : x = 0
    · subst h; rw [lm_past _ _ (by simp [limbs_zero])]; simp
    · rw [limbs_pos x h]
      have e : lm (((x % 10000 : Nat) : Int) :: limbs (x / 10000)) (j + 1) = lm (limbs (x / 10000)) j := rfl
      rw [e, ih, Nat.div_div_eq_div_mul, Nat.pow_succ, Nat.mul_comm 10000]
theorem dig_at (x i : Nat) : x / 10 ^ i % 10 = x / 10000 ^ (i / 4) % 10000 / 10 ^ (i % 4) % 10 := by
  have e : (10 : Nat) ^ i = 10000 ^ (i / 4) * 10 ^ (i % 4) := by
    conv => lhs; rw [← Nat.div_add_mod i 4, Nat.pow_add, Nat.pow_mul]
  rw [e, ← Nat.div_div_eq_div_mul]
  generalize x / 10000 ^ (i / 4) = y
  rcases pow4 (i % 4) (by omega) with ⟨p, q⟩ | ⟨p, q⟩ | ⟨p, q⟩ | ⟨p, q⟩ <;> rw [p] <;> omega
theorem dig_step (x i : Nat) : x / 10 ^ i = 10 * (x / 10 ^ (i + 1)) + x / 10 ^ i % 10 := by
  rw [Nat.pow_succ, ← Nat.div_div_eq_div_mul]; omega

set_option maxHeartbeats 2000000 in
set_option maxRecDepth 20000 in
theorem ptold_pos (ao : Option Addr) (n cap : Nat) (x : Nat) (w : World) (hr : Row w ao n cap (limbs x)) (hn : n ≤ 50000) (hx : x ≠ 0) :
    Calls Tryd.prog 99 #[.slice ao n cap] w fun e w' => e = .returned (.string ⟨(decDigits x).toArray⟩) ∧ Below w.heap.size w w' := by
  have l1 := hr.len
  have hnp : 0 < n := by have h1 := limbs_ne_nil hx; have h2 := List.length_pos_iff.2 h1; omega
  have hn0 : ((n : Int) == 0) = false := by rw [beq_eq_false_iff_ne]; omega
  have HR := hid hr
  have HX := hid hx
  clear hr hx
  go_enter Tryd.func99, Tryd.ntmps99
  go_wp2
  go_loopw [3, 4] (fun vt vi wr => ∃ (k : Nat) (l : List UInt8), k ≤ 4 * n ∧ vi = .int .i64 ((k : Int) - 1) ∧ Hid (l = tl (x / 10 ^ k)) ∧ l.length + k ≤ 4 * n ∧ Hid (OwnB w.heap.size wr vt l) ∧ Hid (Below w.heap.size w wr)) (fun _ vi _ => (intOf vi + 1).toNat)
  case atStart =>
    refine ⟨4 * n, [], Nat.le_refl _, by go_num, ?_, by simp, OwnB.nil _ _, Below.refl _ _⟩
    have h1 := len_limbs_lt x
    rw [l1] at h1
    have h2 : (10 : Nat) ^ (4 * n) = 10000 ^ n := by rw [Nat.pow_mul]
    show [] = tl _
    rw [h2, Nat.div_eq_of_lt h1]; rfl
  case round =>
    obtain ⟨k, l, hk, rfl, hl, hlk, hO, hb⟩ := hrel
    have hBs := hb.out.size
    by_cases k0 : k = 0
    · subst k0
      have hlx : l = decDigits x := by rw [hl.out, Nat.pow_zero, Nat.div_one]; unfold tl; rw [if_neg HX.out]
      have hlp : 0 < l.length := by rw [hlx]; exact List.length_pos_iff.2 (dec_facts x).1
      have hrun := string_of_byt (byt_of_owns hO.out rfl hlp)
      rw [hlx] at hrun
      clear hlx
      go_wp2
      go_ret
      exact ⟨rfl, hb.out⟩
    · obtain ⟨i, rfl⟩ : ∃ i, k = i + 1 := ⟨k - 1, by omega⟩
      obtain ⟨b, o, rfl, hlt⟩ := HR.out.head (by omega)
      have d1 : wr.cell? ⟨b, o + i / 4, none⟩ = some (.int .i64 (lm (limbs x) (i / 4))) := (hb.out.cell (p := ⟨b, o + i / 4, none⟩) hlt).trans (HR.out.cell b o rfl (i / 4) (by omega))
      obtain ⟨V0, hV0, hV9⟩ : ∃ V0 : Nat, lm (limbs x) (i / 4) = V0 ∧ V0 < 10000 := ⟨_, lm_div x (i / 4), Nat.mod_lt _ (by omega)⟩
      have HV0 : Hid (V0 = x / 10000 ^ (i / 4) % 10000) := by have := lm_div x (i / 4); rw [hV0] at this; show _ = _; exact_mod_cast this
      rw [hV0] at d1
      have hi1 : (0 : Int) ≤ ((i + 1 : Nat) : Int) - 1 := by omega
      have hi4 : (i : Int) / 4 < (n : Int) := by omega
      obtain ⟨vo, vc, rfl⟩ := hO.out.shape
      clear hV0
      rw [show ((i + 1 : Nat) : Int) - 1 = (i : Int) by omega]
      go_wp2
      go_loopw [5, 6] (fun vv vj wq => ∃ (j V : Nat), j ≤ i % 4 ∧ V < 10000 ∧ Hid (V = V0 / 10 ^ j) ∧ vj = .int .i64 j ∧ vv = .int .i64 V ∧ wq = wr) (fun _ vj _ => i % 4 - (intOf vj).toNat)
      case atStart => exact ⟨0, V0, Nat.zero_le _, hV9, by show _ = _; simp, rfl, rfl, rfl⟩
      case round =>
        obtain ⟨j, V, hj, hV8, hV, rfl, rfl, rfl⟩ := hrel
        by_cases hj4 : j < i % 4
        · have hV2 : Hid (V / 10 = V0 / 10 ^ (j + 1)) := by show _ = _; rw [hV.out, Nat.div_div_eq_div_mul, Nat.pow_succ]
          have hji : (j : Int) < (i : Int) % 4 := by omega
          go_wp2
          go_roundw
          case rel => exact ⟨j + 1, V / 10, by omega, by omega, hV2.out, by go_num, by go_num, by first | exact trivial | exact rfl⟩
          case measure => simp [intOf]; omega
        · obtain rfl : j = i % 4 := by omega
          have hjn : ¬ ((i % 4 : Nat) : Int) < (i : Int) % 4 := by omega
          have hdg : Hid (V % 10 = x / 10 ^ i % 10) := by show _ = _; rw [hV.out, HV0.out]; exact (dig_at x i).symm
          have hds : Hid (x / 10 ^ i = 10 * (x / 10 ^ (i + 1)) + V % 10) := by show _ = _; rw [hdg.out]; exact dig_step x i
          obtain ⟨c, hc, hcn⟩ : ∃ c : UInt8, c = UInt8.ofNat (48 + V % 10) ∧ ((c.toNat : Nat) : Int) = 48 + (V : Int) % 10 := ⟨_, rfl, by rw [toNat_dig _ (by omega)]; omega⟩
          have hcell : (wr.alloc (.cells #[.int .u8 (48 + (V : Int) % 10)] 5)).cell? ⟨wr.heap.size, 0, none⟩ = some (.int .u8 (c.toNat : Nat)) := by rw [hcn]; exact (bx_new wr _ _).cell 0 _ rfl
          have HC := hid hcell
          have hmore : Hid (x / 10 ^ (i + 1) ≠ 0 ∨ V % 10 ≠ 0 → l ++ [c] = tl (x / 10 ^ i)) := by
            intro h
            rw [hl.out, hc, hds.out]
            exact tl_more _ _ (by omega) h
          have hlz : l.length = 0 ↔ x / 10 ^ (i + 1) = 0 := by
            rw [hl.out]
            unfold tl
            by_cases h : x / 10 ^ (i + 1) = 0
            · rw [if_pos h]; simp [h]
            · rw [if_neg h]
              have := List.length_pos_iff.2 (dec_facts (x / 10 ^ (i + 1))).1
              constructor
              · intro h2; omega
              · intro h2; exact absurd h2 h
          clear hc hcn hcell
          by_cases hl0 : l.length = 0
          · by_cases hv0 : V % 10 = 0
            · have hE : Hid (l = tl (x / 10 ^ i)) := by
                show _ = _
                rw [hds.out, hlz.1 hl0, hv0, List.length_eq_zero_iff.1 hl0]; rfl
              have hA : decide ((0 : Int) < (l.length : Int)) = false := by rw [decide_eq_false_iff_not]; omega
              have hB : decide ((0 : Int) < (V : Int) % 10) = false := by rw [decide_eq_false_iff_not]; omega
              have hA2 : decide (0 < l.length) = false := by rw [decide_eq_false_iff_not]; omega
              have hO2 := hid hO.out
              clear hlz hmore hl0 hv0
              go_wp2
              go_roundw
              case rel => exact ⟨i, l, by omega, by go_num, hE.out, by omega, hO2.out, hb.out⟩
              case measure => simp [intOf]
            · have hE := hid (hmore.out (.inr hv0))
              have hA : decide ((0 : Int) < (l.length : Int)) = false := by rw [decide_eq_false_iff_not]; omega
              have hA2 : decide (0 < l.length) = false := by rw [decide_eq_false_iff_not]; omega
              have hB : decide ((0 : Int) < (V : Int) % 10) = true := by rw [decide_eq_true_iff]; omega
              clear hlz hmore hl0 hv0
              go_wp2_with (at_builtin; refine wpList_append_b _ rfl _ _ rfl w.heap.size _ l c ⟨wr.heap.size, 0, none⟩ rfl rfl (hO.out.below ((Below.refl _ _).alloc (Nat.le_refl _) _)) HC.out (by omega) (Nat.le_trans hBs (by simp)) ?_)
              intro v' w' hO2 hB2
              have HO2 := hid hO2
              have HB2 : Hid (Below w.heap.size w w') := (hb.out.alloc hb.out.size _).trans hB2
              clear hO2 hB2
              go_wp2
              go_roundw
              case rel => exact ⟨i, _, by omega, by go_num, hE.out, by simp; omega, HO2.out, HB2.out⟩
              case measure => simp [intOf]
          · have hE := hid (hmore.out (.inl (fun h => hl0 (hlz.2 h))))
            have hA : decide ((0 : Int) < (l.length : Int)) = true := by rw [decide_eq_true_iff]; omega
            have hA2 : decide (0 < l.length) = true := by rw [decide_eq_true_iff]; omega
            clear hlz hmore
            go_wp2_with (at_builtin; refine wpList_append_b _ rfl _ _ rfl w.heap.size _ l c ⟨wr.heap.size, 0, none⟩ rfl rfl (hO.out.below ((Below.refl _ _).alloc (Nat.le_refl _) _)) HC.out (by omega) (Nat.le_trans hBs (by simp)) ?_)
            intro v' w' hO2 hB2
            have HO2 := hid hO2
            have HB2 : Hid (Below w.heap.size w w') := (hb.out.alloc hb.out.size _).trans hB2
            clear hO2 hB2
            go_wp2
            go_roundw
            case rel => exact ⟨i, _, by omega, by go_num, hE.out, by simp; omega, HO2.out, HB2.out⟩
            case measure => simp [intOf]

theorem ptold_zero (ao : Option Addr) (cap : Nat) (w : World) :
    Calls Tryd.prog 99 #[.slice ao 0 cap] w fun e w' => e = .returned (.string ⟨(decDigits 0).toArray⟩) ∧ Below w.heap.size w w' := by
  have e : Hid (decDigits 0 = [48]) := dec_small (by omega)
  rw [e.out]
  go_enter Tryd.func99, Tryd.ntmps99
  go_wp2
  go_ret
  exact ⟨rfl, Below.refl _ _⟩
theorem ptold_any (ao : Option Addr) (n cap : Nat) (x : Nat) (w : World) (hr : Row w ao n cap (limbs x)) (hn : n ≤ 50000) :
    Calls Tryd.prog 99 #[.slice ao n cap] w fun e w' => e = .returned (.string ⟨(decDigits x).toArray⟩) ∧ Below w.heap.size w w' := by
  by_cases hx : x = 0
  · subst hx
    have := hr.len
    obtain rfl : n = 0 := this.symm
    exact ptold_zero ao cap w
  · exact ptold_pos ao n cap x w hr hn hx
end Go.Proofs.YtddbflggcblfcaaDoor
