/- RefA, RefB, RefC, RefD, joined. -/
import Derived.Test.YtigokanoflkinaaGreatDoorWBase
import Derived.Laws.AppendOwn
import Derived.Laws.AppendOwnNone
import Derived.Test.YtigokanoflkinaaGreatDoorPure
/- portionref.cut, digit, whole, compare: what they answer of any numbers. -/
namespace Go.Proofs.YtigokanoflkinaaGreatDoor
set_option linter.unusedSimpArgs false
set_option linter.unusedVariables false
open Go.RowKit Por

/- A number of the reference in memory: a slice of its limbs. -/
/-- laid at B or behind it; nil has no room -/
def Fr (B : Nat) (ao : Option Addr) (cap : Nat) : Prop := (ao = none → cap = 0) ∧ ∀ a, ao = some a → B ≤ a.block
def Sli (B : Nat) (w : World) (v : Value) (m : Nat) : Prop := ∃ ao n cap, v = .slice ao n cap ∧ Row w ao n cap (limbs m) ∧ Fr B ao cap
theorem Fr.here (g o cap : Nat) : Fr g (some ⟨g, o, none⟩) cap := ⟨fun h => (by cases h), fun a h => (by cases h; exact Nat.le_refl _)⟩
theorem Fr.mono {B C : Nat} {ao : Option Addr} {cap : Nat} (h : Fr B ao cap) (hc : C ≤ B) : Fr C ao cap := ⟨h.1, fun a e => Nat.le_trans hc (h.2 a e)⟩

set_option maxHeartbeats 400000 in
set_option maxRecDepth 10000 in
theorem pcut_any (ao : Option Addr) (n cap : Nat) (xs : List Int) (w : World) (hr : Row w ao n cap xs) (hL : Lim xs) (hn : n ≤ 60000) :
    Calls Tryz.prog 83 #[.slice ao n cap] w fun e w' =>
      ∃ m, m ≤ n ∧ xs.take m = limbs (val xs).toNat ∧ e = .returned (.slice ao m cap) ∧ w' = w := by
  have hlen := hr.len
  have hle := hr.le
  have hcm := hr.cm
  unfold maxLen at hcm
  go_enter Tryz.func83, Tryz.ntmps83
  go_wp2
  go_loop [3] (fun v => ∃ m : Nat, m ≤ n ∧ v = .int .i64 m ∧ Hid (∀ i, m ≤ i → i < xs.length → lm xs i = 0)) (fun v => (intOf v).toNat)
  case atStart => exact ⟨n, Nat.le_refl _, rfl, fun i h1 h2 => by omega⟩
  case round =>
    obtain ⟨m, hm, rfl, hz⟩ := hrel
    by_cases h0 : m = 0
    · subst h0
      have E := trim_eq xs 0 hL (by omega) (fun i h1 h2 => hz.out i h1 h2) (.inl rfl)
      have HE := hid (E); clear E
      go_wp2
      go_ret
      exact ⟨0, by omega, HE.out, rfl, rfl⟩
    · obtain ⟨b, o, rfl, hlt⟩ := hr.head (by omega)
      have hc := hr.cell b o rfl (m - 1) (by omega)
      obtain ⟨q, rfl⟩ : ∃ q, m = q + 1 := ⟨m - 1, by omega⟩
      simp only [Nat.add_sub_cancel] at hc
      by_cases hx : lm xs q = 0
      · rw [hx] at hc
        have hx' := hid (hx)
        clear hr hx
        go_wp2
        exact ⟨⟨q, by omega, rfl, fun i h1 h2 => by
          by_cases e : i = q
          · rw [e]; exact hx'.out
          · exact hz.out i (by omega) h2⟩, by simp [intOf]⟩
      · have hx0 : (lm xs q == 0) = false := by simpa using hx
        have E := trim_eq xs (q + 1) hL (by omega) (fun i h1 h2 => hz.out i h1 h2) (.inr hx)
        have HE := hid (E); clear E
        clear hr
        go_wp2
        go_ret
        exact ⟨q + 1, by omega, HE.out, rfl, rfl⟩

set_option maxHeartbeats 400000 in
theorem pdigit_any (ao : Option Addr) (n cap i : Nat) (xs : List Int) (w : World) (hr : Row w ao n cap xs) (hn : n ≤ 60000) (hi : i ≤ 60000) :
    Calls Tryz.prog 82 #[.slice ao n cap, .int .i64 i] w fun e w' => e = .returned (.int .i64 (lm xs i)) ∧ w' = w := by
  by_cases h : i < n
  · obtain ⟨b, o, rfl, hlt⟩ := hr.head (by omega)
    have hc := hr.cell b o rfl i h
    clear hr
    go_enter Tryz.func82, Tryz.ntmps82
    go_wp2
    go_ret
    exact ⟨rfl, rfl⟩
  · have e : lm xs i = 0 := by
      have := hr.len
      unfold lm; rw [List.getD_eq_getElem?_getD, List.getElem?_eq_none (by omega)]; rfl
    rw [e]
    clear hr e
    go_enter Tryz.func82, Tryz.ntmps82
    go_wp2
    go_ret
    exact ⟨rfl, rfl⟩

set_option maxHeartbeats 400000 in
theorem pcmp_any (ao bo : Option Addr) (n capa m capb : Nat) (x y : Nat) (w : World) (hr : Row w ao n capa (limbs x)) (hs : Row w bo m capb (limbs y)) (hn : n ≤ 60000) (hm : m ≤ 60000) :
    Calls Tryz.prog 41 #[.slice ao n capa, .slice bo m capb] w fun e w' => e = .returned (.int .i64 (cmp3 x y)) ∧ Below w.heap.size w w' := by
  have l1 := hr.len
  have l2 := hs.len
  have vx := val_limbs x
  have vy := val_limbs y
  rcases Nat.lt_trichotomy n m with h | h | h
  · have e : cmp3 x y = -1 := by
      have := val_lt_of_len (lim_limbs x) (lim_limbs y) (topped_limbs y) (by omega)
      unfold cmp3; rw [if_pos (by omega)]
    rw [e]
    have hb1 : ((n : Int) == (m : Int)) = false := by rw [beq_eq_false_iff_ne]; omega
    clear e hr hs l1 l2 vx vy
    go_enter Tryz.func41, Tryz.ntmps41
    go_wp2
    go_ret
    exact ⟨rfl, Below.refl _ _⟩
  · subst h
    have HR := hid (hr)
    have HS := hid (hs)
    have HX := hid (vx)
    have HY := hid (vy)
    clear hr hs vx vy
    go_enter Tryz.func41, Tryz.ntmps41
    go_wp2
    go_loopw [5] (fun v wr => ∃ k : Nat, k ≤ n ∧ v = .int .i64 ((k : Int) - 1) ∧ Hid (∀ j, k ≤ j → j < n → lm (limbs x) j = lm (limbs y) j) ∧ Below w.heap.size w wr) (fun v _ => (intOf v + 1).toNat)
    case atStart => exact ⟨n, Nat.le_refl _, rfl, fun j h1 h2 => by omega, Below.refl _ _⟩
    case round =>
      obtain ⟨k, hk, rfl, hz, hB⟩ := hrel
      have HB := hid (hB)
      by_cases k0 : k = 0
      · subst k0
        have e : cmp3 x y = 0 := by
          have := ext_getD n l1 l2 (fun i hi => hz.out i (by omega) hi)
          have : (x : Int) = y := by rw [← HX.out, ← HY.out, this]
          unfold cmp3; rw [if_neg (by omega), if_pos this]
        clear hB
        go_wp2
        go_ret
        exact ⟨by rw [e]; rfl, HB.out⟩
      · obtain ⟨q, rfl⟩ : ∃ q, k = q + 1 := ⟨k - 1, by omega⟩
        obtain ⟨ba, oa, rfl, hla⟩ := HR.out.head (by omega)
        obtain ⟨bb, ob, rfl, hlb⟩ := HS.out.head (by omega)
        have d1 : wr.cell? ⟨ba, oa + q, none⟩ = some (.int .i64 (lm (limbs x) q)) := (hB.cell (p := ⟨ba, oa + q, none⟩) hla).trans (HR.out.cell ba oa rfl q (by omega))
        have d2 : wr.cell? ⟨bb, ob + q, none⟩ = some (.int .i64 (lm (limbs y) q)) := (hB.cell (p := ⟨bb, ob + q, none⟩) hlb).trans (HS.out.cell bb ob rfl q (by omega))
        clear hB
        have hq1 : (0 : Int) ≤ ((q + 1 : Nat) : Int) - 1 := by omega
        rcases Int.lt_trichotomy (lm (limbs x) q) (lm (limbs y) q) with hlt | heq | hgt
        · have e : cmp3 x y = -1 := by
            have := val_cmp_lt _ _ (lim_limbs x) (lim_limbs y) n l1 l2 q (by omega) (fun i h1 h2 => hz.out i (by omega) h2) hlt
            rw [HX.out, HY.out] at this
            unfold cmp3; rw [if_pos this]
          have He := hid (e); clear e
          go_wp2
          go_quiet (fail)
          go_wp2
          go_ret
          exact ⟨by rw [He.out]; rfl, below_drewN HB.out _⟩
        · have hlt1 : ¬ lm (limbs x) q < lm (limbs y) q := by omega
          have hlt2 : ¬ lm (limbs y) q < lm (limbs x) q := by omega
          have He := hid (heq); clear heq
          go_wp2
          go_quiet (fail)
          go_wp2
          go_quiet (fail)
          go_wp2
          go_roundw
          case rel => exact ⟨q, by omega, by go_num, fun j h1 h2 => (by
            by_cases e : j = q
            · rw [e]; exact He.out
            · exact hz.out j (by omega) h2), below_drewN HB.out _⟩
          case measure => simp [intOf]
        · have hlt1 : ¬ lm (limbs x) q < lm (limbs y) q := by omega
          have e : cmp3 x y = 1 := by
            have := val_cmp_lt _ _ (lim_limbs y) (lim_limbs x) n l2 l1 q (by omega) (fun i h1 h2 => (hz.out i (by omega) h2).symm) hgt
            rw [HX.out, HY.out] at this
            unfold cmp3; rw [if_neg (by omega), if_neg (by omega)]
          have He := hid (e); clear e
          go_wp2
          go_quiet (fail)
          go_wp2
          go_quiet (fail)
          go_wp2
          go_ret
          exact ⟨by rw [He.out]; rfl, by first | exact below_drewN HB.out _ | exact below_drewN (below_drewN HB.out _) _⟩
  · have e : cmp3 x y = 1 := by
      have := val_lt_of_len (lim_limbs y) (lim_limbs x) (topped_limbs x) (by omega)
      unfold cmp3; rw [if_neg (by omega), if_neg (by omega)]
    rw [e]
    have hb1 : ((n : Int) == (m : Int)) = false := by rw [beq_eq_false_iff_ne]; omega
    clear e hr hs l1 l2 vx vy
    go_enter Tryz.func41, Tryz.ntmps41
    go_wp2
    go_ret
    exact ⟨rfl, Below.refl _ _⟩

/-- A row of ints of the call's own. -/
def Own (base : Nat) (w : World) (v : Value) (l : List Int) : Prop := w.ownsRow base 3 1 v l.length (l.map (Value.int .i64))

theorem Own.nil (base : Nat) (w : World) : Own base w (.slice none 0 0) [] := ⟨rfl, .inl ⟨rfl, rfl⟩⟩
theorem Own.below {base : Nat} {w w' : World} {v : Value} {l : List Int} (h : Own base w v l) (hb : Below w.heap.size w w') : Own base w' v l := by
  obtain ⟨h0, h⟩ := h
  refine ⟨h0, ?_⟩
  rcases h with h | ⟨g, cap, cur, h1, h2, h3, h4⟩
  · exact .inl h
  · exact .inr ⟨g, cap, cur, h1, h2, (hb.block g (Array.getElem?_eq_some_iff.1 h3).1).trans h3, h4⟩
theorem Own.row {base : Nat} {w : World} {v : Value} {l : List Int} (h : Own base w v l) : ∃ ao cap, v = .slice ao l.length cap ∧ Row w ao l.length cap l ∧ Fr base ao cap := by
  obtain ⟨h0, h⟩ := h
  rcases h with ⟨rfl, h⟩ | ⟨g, cap, cur, rfl, h2, h3, h4, h5, h6, h7⟩
  · obtain rfl : l = [] := List.length_eq_zero_iff.1 h
    exact ⟨none, 0, rfl, Row.nil w, fun _ => rfl, fun a h => by cases h⟩
  · refine ⟨_, _, rfl, ⟨rfl, h4, h5, fun _ => ⟨g, 0, rfl, (Array.getElem?_eq_some_iff.1 h3).1⟩, fun b o e _ => (by cases e; exact ⟨_, _, h3⟩), fun b o e j hj => ?_⟩, (Fr.here g 0 cap).mono h2⟩
    cases e
    rw [Nat.zero_add, cell_of_row w g j _ _ _ h3]
    have e1 : cur.toList[j]? = (cur.toList.take (l.length * 1))[j]? := by rw [List.getElem?_take, if_pos (by omega)]
    rw [← Array.getElem?_toList, e1, h7, List.getElem?_map]
    unfold lm
    rw [List.getD_eq_getElem?_getD, List.getElem?_eq_getElem hj]
    rfl

/-- out = append(out, more...) -/
theorem wpList_append_ints (w : World) {ops : Array Oper} {rest : List Oper} {o : Oper} {a : Act} {Q : Exit → Act → World → Prop} (hgd : o.guard = none) (s x : Operand)
    (hop : o.op = Op.call { callee := Callee.builtin Builtin.append, args := #[s, x], argTypes := #[22, 22] })
    (base : Nat) (v : Value) (l : List Int) (ad : Addr) (m c : Nat) (news : List Int) (hs : a.eval s = v) (hx : a.eval x = .slice (some ad) m c) (hown : Own base w v l) (hm : news.length = m)
    (hnews : ∀ j, j < m → w.cell? (ad.add j) = some (.int .i64 (lm news j)))
    (hle : l.length + m ≤ 1000000) (hb : base ≤ w.heap.size)
    (h : ∀ v' w', Own base w' v' (l ++ news) → Below base w w' → wpList Tryz.prog ops Q rest (a.put o.dst v') w') : wpList Tryz.prog ops Q (o :: rest) a w := by
  obtain ⟨i, hi, hz0, hz1, hz2⟩ := info_parts Tryz.infoInt
  have hob : ∀ k, v.ownBlock = some k → base ≤ k := by
    intro k hk
    rcases hown.2 with ⟨rfl, _⟩ | ⟨g, cap, cur, rfl, h2, _⟩
    · cases hk
    · cases hk; exact h2
  refine wpList_append_own w hgd s x _ hop base 3 i (.int .i64 0) 1 8 Tryz.underlying22 hi hz0 hz1 hz2 rfl (by decide) v l.length _ hs hown ad m c (news.map (Value.int .i64)) hx (by simp [hm]) ?_ ?_ (by unfold maxLen; omega) (by omega) hb ?_
  · intro j u hj
    have hjl : j < m := by have := (List.getElem?_eq_some_iff.1 hj).1; simpa [hm] using this
    rw [hnews j hjl, ← hj]
    unfold lm
    rw [List.getD_eq_getElem?_getD, List.getElem?_map, List.getElem?_eq_getElem (by omega)]; rfl
  · intro u hu
    obtain ⟨z, _, rfl⟩ := List.mem_map.1 hu
    rfl
  · intro v' w' h2 h3 _
    refine h v' w' ?_ ((Below.refl base w).grown h3 hb hob)
    unfold Own
    rw [List.length_append, hm, List.map_append]
    exact h2
theorem wpList_append_nil (w : World) {ops : Array Oper} {rest : List Oper} {o : Oper} {a : Act} {Q : Exit → Act → World → Prop} (hgd : o.guard = none) (s x : Operand)
    (hop : o.op = Op.call { callee := Callee.builtin Builtin.append, args := #[s, x], argTypes := #[22, 22] })
    (base : Nat) (v : Value) (l : List Int) (hs : a.eval s = v) (hx : a.eval x = .slice none 0 0) (hown : Own base w v l)
    (h : wpList Tryz.prog ops Q rest (a.put o.dst v) w) : wpList Tryz.prog ops Q (o :: rest) a w := by
  obtain ⟨i, hi, hz0, hz1, hz2⟩ := info_parts Tryz.infoInt
  exact wpList_append_own_none hgd s x _ hop base 3 i 1 Tryz.underlying22 hi v l.length _ hs hown hx h

theorem limbs_step (l : List Int) (x v : Nat) (hv : v ≠ 0) (h : limbs x = l ++ limbs v) : limbs x = (l ++ [(v : Int) % 10000]) ++ limbs (v / 10000) := by
  rw [h, limbs_pos v hv, Int.natCast_emod]; simp

set_option maxHeartbeats 1000000 in
set_option maxRecDepth 20000 in
theorem pwhole_any (x : Nat) (w : World) (hx : x ≤ 9223372036854775807) :
    Calls Tryz.prog 35 #[.int .i64 x] w fun e w' => ∃ v, e = .returned v ∧ Sli w.heap.size w' v x ∧ Below w.heap.size w w' := by
  go_enter Tryz.func35, Tryz.ntmps35
  go_wp2
  have h5 : (limbs x).length ≤ 5 := len_limbs_le (by omega)
  go_loopw [0, 3] (fun v0 v3 wr => ∃ (v : Nat) (l : List Int), v ≤ x ∧ v0 = .int .i64 v ∧ l.length + (limbs v).length ≤ 5 ∧ Hid (limbs x = l ++ limbs v) ∧ Hid (Own w.heap.size wr v3 l) ∧ Hid (Below w.heap.size w wr)) (fun v0 _ _ => (intOf v0).toNat)
  case atStart => exact ⟨x, [], Nat.le_refl _, rfl, by simp; exact h5, rfl, Own.nil _ _, Below.refl _ _⟩
  case round =>
    obtain ⟨v, l, hv, rfl, hl, hE, hO, hB⟩ := hrel
    have hBs := hB.out.size
    by_cases h0 : v = 0
    · have E : limbs x = l := by rw [hE.out, h0, limbs_zero, List.append_nil]
      obtain ⟨ao, cap, rfl, hrow, hne⟩ := hO.out.row
      have HR := hid hrow
      have HE := hid E
      clear hrow E
      subst h0
      go_wp2
      go_ret
      exact ⟨_, rfl, ⟨_, _, _, rfl, by rw [HE.out]; exact HR.out, hne⟩, hB.out⟩
    · have hv0 : (0 : Int) < (v : Int) := by omega
      have hE2 := hid (limbs_step l x v h0 hE.out)
      have hlv : (limbs v).length = (limbs (v / 10000)).length + 1 := by rw [limbs_pos v h0]; simp
      go_wp2_with (at_builtin; refine wpList_append_ints _ rfl _ _ rfl w.heap.size _ l ⟨wr.heap.size, 0, none⟩ 1 1 [(v : Int) % 10000] rfl rfl (hO.out.below ((Below.refl _ _).alloc (Nat.le_refl _) _)) rfl (by intro j hj; obtain rfl : j = 0 := (by omega); simp [Addr.add, lm]) (by omega) (Nat.le_trans hBs (by simp)) ?_)
      intro v' w' hO2 hB2
      have HO2 := hid hO2
      have HB2 : Hid (Below w.heap.size w w') := ((hB.out.alloc hB.out.size _).trans hB2)
      clear hO2 hB2
      go_wp2
      go_roundw
      case rel => exact ⟨v / 10000, _, by omega, by go_num, by simp; omega, hE2.out, HO2.out, HB2.out⟩
      case measure => simp [intOf]; omega
end Go.Proofs.YtigokanoflkinaaGreatDoor

/- portionref.plus, less: the sum, the difference of any two numbers. (Laid by mkref.py.) -/
namespace Go.Proofs.YtigokanoflkinaaGreatDoor
set_option linter.unusedSimpArgs false
set_option linter.unusedVariables false
open Go.RowKit Por

theorem row_of_cut {w : World} {ao : Option Addr} {n cap m : Nat} {xs : List Int} {z : Nat} (hr : Row w ao n cap xs) (hm : m ≤ n) (he : xs.take m = limbs (val xs).toNat) (hz : (val xs).toNat = z) :
    Row w ao m cap (limbs z) := by
  have := (hr.take m hm)
  rwa [he, hz] at this

theorem plus_end (o : List Int) (n x y : Nat) (c : Int) (hL : Lim o) (hlen : o.length = n + 1) (hx : (limbs x).length ≤ n) (hy : (limbs y).length ≤ n) (hc : 0 ≤ c)
    (h : val (o.take (n + 1)) + 10000 ^ (n + 1) * c = val ((limbs x).take (n + 1)) + val ((limbs y).take (n + 1))) : (val o).toNat = x + y := by
  rw [List.take_of_length_le (by omega), List.take_of_length_le (by omega), List.take_of_length_le (by omega), val_limbs, val_limbs] at h
  have h1 := len_limbs_lt x
  have h2 := len_limbs_lt y
  have h3 : (10000 : Nat) ^ (limbs x).length ≤ 10000 ^ n := Nat.pow_le_pow_right (by omega) hx
  have h4 : (10000 : Nat) ^ (limbs y).length ≤ 10000 ^ n := Nat.pow_le_pow_right (by omega) hy
  have h5 := val_nonneg hL
  have h8 : ((10000 ^ n : Nat) : Int) = (10000 : Int) ^ n := by simp
  have h9 : x + y < 2 * 10000 ^ n := by omega
  clear h1 h2 h3 h4
  have h6 : c = 0 := by
    by_cases e : c = 0
    · exact e
    · have h7 : (10000 : Int) ^ (n + 1) * 1 ≤ 10000 ^ (n + 1) * c := Int.mul_le_mul_of_nonneg_left (by omega) (by exact Int.le_of_lt (Int.pow_pos (by omega)))
      have h10 : (10000 : Int) ^ (n + 1) = 10000 * 10000 ^ n := by rw [Int.pow_succ, Int.mul_comm]
      generalize (10000 : Int) ^ (n + 1) * c = Z at *
      rw [Int.mul_one, h10] at h7
      generalize (10000 : Int) ^ n = P at *
      omega
  subst h6
  omega

set_option maxHeartbeats 1000000 in
set_option maxRecDepth 20000 in
theorem pplus_lt (ao bo : Option Addr) (n capa m capb : Nat) (x y : Nat) (w : World) (hr : Row w ao n capa (limbs x)) (hs : Row w bo m capb (limbs y)) (hn : n ≤ 50000) (hm : m ≤ 50000) (hnm : n < m) :
    Calls Tryz.prog 141 #[.slice ao n capa, .slice bo m capb] w fun e w' => ∃ v, e = .returned v ∧ Sli w.heap.size w' v (x + y) ∧ Below w.heap.size w w' := by
  have l1 := hr.len
  have l2 := hs.len
  have HR := hid (hr)
  have HS := hid (hs)
  have hlt' : (n : Int) < (m : Int) := by omega
  clear hr hs
  go_enter Tryz.func141, Tryz.ntmps141
  go_wp2_with (at_make; refine wpList_make_ints _ rfl _ _ rfl _ _ (m + 1) rfl rfl (by omega) (by omega) (by omega) ?_)
  intro w1 hk1 hb1 hz1
  have HB1 := hid (hb1)
  have HK1 := hid (hk1)
  clear hb1 hk1
  go_wp2
  go_loopw [7, 8] (fun vc vi wr => ∃ (k : Nat) (c : Int) (out : List Int), k ≤ m + 1 ∧ vi = .int .i64 k ∧ vc = .int .i64 c ∧ 0 ≤ c ∧ c ≤ 1 ∧ out.length = m + 1 ∧ Hid (Lim out) ∧
      Hid (val (out.take k) + 10000 ^ k * c = val ((limbs x).take k) + val ((limbs y).take k)) ∧ Hid (Blk wr w.heap.size out) ∧ Hid (Below w.heap.size w wr)) (fun _ vi _ => m + 1 - (intOf vi).toNat)
  case atStart => exact ⟨0, 0, _, Nat.zero_le _, rfl, rfl, by omega, by omega, by simp, lim_replicate _, by simp [Hid, val], HK1.out, HB1.out⟩
  case round =>
    obtain ⟨k, c, out, hk, rfl, rfl, hc0, hc1, hol, hLim, hval, hblk, hb⟩ := hrel
    have hgw : w.heap.size < wr.heap.size := hblk.out.lt
    by_cases hlt2 : k ≤ m
    · have hra : Hid (Row wr ao n capa (limbs x)) := HR.out.below hb.out
      have hrs : Hid (Row wr bo m capb (limbs y)) := HS.out.below hb.out
      obtain ⟨bx0, bx1⟩ := lim_getD (lim_limbs x) k
      obtain ⟨by0, by1⟩ := lim_getD (lim_limbs y) k
      have g1 := hblk.out.cell k (by omega)
      have g2 := hblk.out.frozen k
      go_wp2_with fail
      refine (pdigit_any ao n capa k (limbs x) _ hra.out (by omega) (by omega)).mono ?_
      rintro e w2 ⟨rfl, rfl⟩
      go_wp2_with fail
      refine (pdigit_any bo m capb k (limbs y) _ hrs.out (by omega) (by omega)).mono ?_
      rintro e w2 ⟨rfl, rfl⟩
      go_wp2
      go_roundw
      case rel =>
        exact ⟨k + 1, _, _, by omega, by go_num, rfl, by omega, by omega, by simpa using hol, lim_set hLim.out k _ (by omega) (by omega), add_step out (limbs x) (limbs y) k c _ (by omega) rfl hval.out, hblk.out.set k _, hb.out.setCell (Nat.le_refl _) _⟩
      case measure => simp [intOf]; omega
    · obtain rfl : k = m + 1 := by omega
      have hend := hid (plus_end out m x y c hLim.out hol (by omega) (by omega) hc0 hval.out)
      have hrow := hid (Blk.row0 hblk.out (m + 1) (m + 1) (by omega) (Nat.le_refl _) (by unfold maxLen; omega))
      go_wp2_with fail
      refine (pcut_any _ (m + 1) (m + 1) out _ hrow.out hLim.out (by omega)).mono ?_
      rintro e w4 ⟨j, hj, hj2, rfl, rfl⟩
      have HR2 := hid (row_of_cut hrow.out hj hj2 hend.out)
      clear hj2
      go_wp2
      go_ret
      exact ⟨_, rfl, ⟨_, _, _, rfl, HR2.out, Fr.here _ _ _⟩, hb.out⟩

set_option maxHeartbeats 1000000 in
set_option maxRecDepth 20000 in
theorem pplus_ge (ao bo : Option Addr) (n capa m capb : Nat) (x y : Nat) (w : World) (hr : Row w ao n capa (limbs x)) (hs : Row w bo m capb (limbs y)) (hn : n ≤ 50000) (hm : m ≤ 50000) (hnm : m ≤ n) :
    Calls Tryz.prog 141 #[.slice ao n capa, .slice bo m capb] w fun e w' => ∃ v, e = .returned v ∧ Sli w.heap.size w' v (x + y) ∧ Below w.heap.size w w' := by
  have l1 := hr.len
  have l2 := hs.len
  have HR := hid (hr)
  have HS := hid (hs)
  have hlt' : ¬ (n : Int) < (m : Int) := by omega
  clear hr hs
  go_enter Tryz.func141, Tryz.ntmps141
  go_wp2_with (at_make; refine wpList_make_ints _ rfl _ _ rfl _ _ (n + 1) rfl rfl (by omega) (by omega) (by omega) ?_)
  intro w1 hk1 hb1 hz1
  have HB1 := hid (hb1)
  have HK1 := hid (hk1)
  clear hb1 hk1
  go_wp2
  go_loopw [7, 8] (fun vc vi wr => ∃ (k : Nat) (c : Int) (out : List Int), k ≤ n + 1 ∧ vi = .int .i64 k ∧ vc = .int .i64 c ∧ 0 ≤ c ∧ c ≤ 1 ∧ out.length = n + 1 ∧ Hid (Lim out) ∧
      Hid (val (out.take k) + 10000 ^ k * c = val ((limbs x).take k) + val ((limbs y).take k)) ∧ Hid (Blk wr w.heap.size out) ∧ Hid (Below w.heap.size w wr)) (fun _ vi _ => n + 1 - (intOf vi).toNat)
  case atStart => exact ⟨0, 0, _, Nat.zero_le _, rfl, rfl, by omega, by omega, by simp, lim_replicate _, by simp [Hid, val], HK1.out, HB1.out⟩
  case round =>
    obtain ⟨k, c, out, hk, rfl, rfl, hc0, hc1, hol, hLim, hval, hblk, hb⟩ := hrel
    have hgw : w.heap.size < wr.heap.size := hblk.out.lt
    by_cases hlt2 : k ≤ n
    · have hra : Hid (Row wr ao n capa (limbs x)) := HR.out.below hb.out
      have hrs : Hid (Row wr bo m capb (limbs y)) := HS.out.below hb.out
      obtain ⟨bx0, bx1⟩ := lim_getD (lim_limbs x) k
      obtain ⟨by0, by1⟩ := lim_getD (lim_limbs y) k
      have g1 := hblk.out.cell k (by omega)
      have g2 := hblk.out.frozen k
      go_wp2_with fail
      refine (pdigit_any ao n capa k (limbs x) _ hra.out (by omega) (by omega)).mono ?_
      rintro e w2 ⟨rfl, rfl⟩
      go_wp2_with fail
      refine (pdigit_any bo m capb k (limbs y) _ hrs.out (by omega) (by omega)).mono ?_
      rintro e w2 ⟨rfl, rfl⟩
      go_wp2
      go_roundw
      case rel =>
        exact ⟨k + 1, _, _, by omega, by go_num, rfl, by omega, by omega, by simpa using hol, lim_set hLim.out k _ (by omega) (by omega), add_step out (limbs x) (limbs y) k c _ (by omega) rfl hval.out, hblk.out.set k _, hb.out.setCell (Nat.le_refl _) _⟩
      case measure => simp [intOf]; omega
    · obtain rfl : k = n + 1 := by omega
      have hend := hid (plus_end out n x y c hLim.out hol (by omega) (by omega) hc0 hval.out)
      have hrow := hid (Blk.row0 hblk.out (n + 1) (n + 1) (by omega) (Nat.le_refl _) (by unfold maxLen; omega))
      go_wp2_with fail
      refine (pcut_any _ (n + 1) (n + 1) out _ hrow.out hLim.out (by omega)).mono ?_
      rintro e w4 ⟨j, hj, hj2, rfl, rfl⟩
      have HR2 := hid (row_of_cut hrow.out hj hj2 hend.out)
      clear hj2
      go_wp2
      go_ret
      exact ⟨_, rfl, ⟨_, _, _, rfl, HR2.out, Fr.here _ _ _⟩, hb.out⟩

theorem pplus_any (ao bo : Option Addr) (n capa m capb : Nat) (x y : Nat) (w : World) (hr : Row w ao n capa (limbs x)) (hs : Row w bo m capb (limbs y)) (hn : n ≤ 50000) (hm : m ≤ 50000) :
    Calls Tryz.prog 141 #[.slice ao n capa, .slice bo m capb] w fun e w' => ∃ v, e = .returned v ∧ Sli w.heap.size w' v (x + y) ∧ Below w.heap.size w w' := by
  rcases Nat.lt_or_ge n m with h | h
  · exact pplus_lt ao bo n capa m capb x y w hr hs hn hm h
  · exact pplus_ge ao bo n capa m capb x y w hr hs hn hm h

set_option maxHeartbeats 1000000 in
set_option maxRecDepth 20000 in
theorem pless_any (ao bo : Option Addr) (n capa m capb : Nat) (x y : Nat) (w : World) (hr : Row w ao n capa (limbs x)) (hs : Row w bo m capb (limbs y)) (hn : n ≤ 50000) (hm : m ≤ 50000) (hxy : y ≤ x) :
    Calls Tryz.prog 142 #[.slice ao n capa, .slice bo m capb] w fun e w' => ∃ v, e = .returned v ∧ Sli w.heap.size w' v (x - y) ∧ Below w.heap.size w w' := by
  have l1 := hr.len
  have l2 := hs.len
  have hmn : m ≤ n := by rw [← l1, ← l2]; exact len_mono (by omega)
  have HR := hid (hr)
  have HS := hid (hs)
  clear hr hs
  go_enter Tryz.func142, Tryz.ntmps142
  go_wp2_with (at_make; refine wpList_make_ints _ rfl _ _ rfl _ _ n rfl rfl (by omega) (by omega) (by omega) ?_)
  intro w1 hk1 hb1 hz1
  have HB1 := hid (hb1)
  have HK1 := hid (hk1)
  clear hb1 hk1
  go_wp2
  go_loopw [6, 7, 8] (fun vc vi _ wr => ∃ (k : Nat) (c : Int) (out : List Int), k ≤ n ∧ vi = .int .i64 k ∧ vc = .int .i64 c ∧ 0 ≤ c ∧ c ≤ 1 ∧ out.length = n ∧ Hid (Lim out) ∧
      Hid (val (out.take k) - 10000 ^ k * c = val ((limbs x).take k) - val ((limbs y).take k)) ∧ Hid (Blk wr w.heap.size out) ∧ Hid (Below w.heap.size w wr)) (fun _ vi _ _ => n - (intOf vi).toNat)
  case atStart => exact ⟨0, 0, _, Nat.zero_le _, rfl, rfl, by omega, by omega, by simp, lim_replicate _, by simp [Hid, val], HK1.out, HB1.out⟩
  case round =>
    obtain ⟨k, c, out, hk, rfl, rfl, hc0, hc1, hol, hLim, hval, hblk, hb⟩ := hrel
    have hgw : w.heap.size < wr.heap.size := hblk.out.lt
    by_cases hlt2 : k < n
    · obtain ⟨ba, oa, rfl, hla⟩ := HR.out.head (by omega)
      have d1 : wr.cell? ⟨ba, oa + k, none⟩ = some (.int .i64 (lm (limbs x) k)) := (hb.out.cell (p := ⟨ba, oa + k, none⟩) hla).trans (HR.out.cell ba oa rfl k (by omega))
      have hrs : Hid (Row wr bo m capb (limbs y)) := HS.out.below hb.out
      obtain ⟨bx0, bx1⟩ := lim_getD (lim_limbs x) k
      obtain ⟨by0, by1⟩ := lim_getD (lim_limbs y) k
      have hki : (k : Int) < (n : Int) := by omega
      by_cases hneg : lm (limbs x) k - lm (limbs y) k - c < 0
      all_goals
        have g1 := hblk.out.cell k (by omega)
        have g2 := hblk.out.frozen k
        go_wp2
        go_quiet ((go_at_call 82; refine Calls.quiet_of_same (pdigit_any bo m capb k (limbs y) _ (hrs.out.below (below_drewN (Below.refl _ _) _)) (by omega) (by omega))))
        go_wp2
        go_roundw
        case rel =>
          exact ⟨k + 1, _, _, by omega, by go_num, rfl, by omega, by omega, by simpa using hol, lim_set hLim.out k _ (by omega) (by omega), sub_step out (limbs x) (limbs y) k c _ _ (by omega) (by omega) hval.out, (hblk.out.below (below_drewN (Below.refl _ _) _) hgw).set k _, (below_drewN hb.out _).setCell (Nat.le_refl _) _⟩
        case measure => simp [intOf]; omega
    · obtain rfl : k = n := by omega
      have hend := hid (sub_end out k x y c hLim.out hol l1 (by omega) hc0 (by omega) hval.out)
      have hrow := hid (Blk.row0 hblk.out k k (by omega) (Nat.le_refl _) (by unfold maxLen; omega))
      go_wp2_with fail
      refine (pcut_any _ k k out _ hrow.out hLim.out (by omega)).mono ?_
      rintro e w4 ⟨j, hj, hj2, rfl, rfl⟩
      have HR2 := hid (row_of_cut hrow.out hj hj2 hend.out)
      clear hj2
      go_wp2
      go_ret
      exact ⟨_, rfl, ⟨_, _, _, rfl, HR2.out, Fr.here _ _ _⟩, hb.out⟩
end Go.Proofs.YtigokanoflkinaaGreatDoor

/- portionref.times: the product of any two numbers. -/
namespace Go.Proofs.YtigokanoflkinaaGreatDoor
set_option linter.unusedSimpArgs false
set_option linter.unusedVariables false
open Go.RowKit Por

theorem lm_past (xs : List Int) (j : Nat) (h : xs.length ≤ j) : lm xs j = 0 := by
  unfold lm; rw [List.getD_eq_getElem?_getD, List.getElem?_eq_none h]; rfl

set_option maxHeartbeats 2000000 in
set_option maxRecDepth 20000 in
theorem ptimes_any (ao bo : Option Addr) (n capa m capb : Nat) (x y : Nat) (w : World) (hr : Row w ao n capa (limbs x)) (hs : Row w bo m capb (limbs y)) (hn : n ≤ 20000) (hm : m ≤ 20000) :
    Calls Tryz.prog 37 #[.slice ao n capa, .slice bo m capb] w fun e w' => ∃ v, e = .returned v ∧ Sli w.heap.size w' v (x * y) ∧ Below w.heap.size w w' := by
  have l1 := hr.len
  have l2 := hs.len
  have HR := hid (hr)
  have HS := hid (hs)
  clear hr hs
  go_enter Tryz.func37, Tryz.ntmps37
  go_wp2_with (at_make; refine wpList_make_ints _ rfl _ _ rfl _ _ (n + m + 1) rfl rfl (by omega) (by omega) (by omega) ?_)
  intro w1 hk1 hb1 hz1
  have HB1 := hid (hb1)
  have HK1 := hid (hk1)
  clear hb1 hk1
  go_wp2
  go_loopw [6] (fun vi wr => ∃ (k : Nat) (out : List Int), k ≤ n ∧ vi = .int .i64 k ∧ out.length = n + m + 1 ∧ Hid (Lim out) ∧
      Hid (val out = val ((limbs x).take k) * (y : Int)) ∧ Hid (∀ t, k + m ≤ t → lm out t = 0) ∧ Hid (Blk wr w.heap.size out) ∧ Hid (Below w.heap.size w wr)) (fun vi _ => n - (intOf vi).toNat)
  case atStart => exact ⟨0, _, Nat.zero_le _, rfl, by simp, lim_replicate _, by simp [Hid, val, val_replicate], fun t _ => lm_replicate _ t, HK1.out, HB1.out⟩
  case round =>
    obtain ⟨k, out, hk, rfl, hol, hLim, hval, hzero, hblk, hb⟩ := hrel
    by_cases hlt2 : k < n
    · obtain ⟨ba, oa, rfl, hla⟩ := HR.out.head (by omega)
      obtain ⟨bx0, bx1⟩ := lim_getD (lim_limbs x) k
      go_wp2
      go_loopw [7, 8] (fun vc vj wq => ∃ (j : Nat) (c : Int) (o : List Int), j ≤ m + 1 ∧ (j = m + 1 → c = 0) ∧ vj = .int .i64 j ∧ vc = .int .i64 c ∧ 0 ≤ c ∧ c < 10000 ∧ o.length = n + m + 1 ∧ Hid (Lim o) ∧
          Hid (val o + 10000 ^ (k + j) * c = val ((limbs x).take k) * (y : Int) + 10000 ^ k * (lm (limbs x) k * val ((limbs y).take j))) ∧ Hid (j ≤ m → ∀ t, k + m ≤ t → lm o t = 0) ∧ Hid (∀ t, k + m + 1 ≤ t → lm o t = 0) ∧ Hid (Blk wq w.heap.size o) ∧ Hid (Below w.heap.size w wq)) (fun _ vj _ => m + 1 - (intOf vj).toNat)
      case atStart => exact ⟨0, 0, out, Nat.zero_le _, fun _ => rfl, rfl, rfl, by omega, by omega, hol, hLim.out, by simp [Hid, val, hval.out], fun _ => hzero.out, fun t ht => hzero.out t (by omega), hblk.out, hb.out⟩
      case round =>
        obtain ⟨j, c, o, hj, hjc, rfl, rfl, hc0, hc1, hol2, hLim2, hval2, hzero2, hzero3, hblk2, hb2⟩ := hrel
        have hgw2 : w.heap.size < wr.heap.size := hblk2.out.lt
        by_cases hgo : j < m ∨ (j = m ∧ 0 < c)
        · have d1 : wr.cell? ⟨ba, oa + k, none⟩ = some (.int .i64 (lm (limbs x) k)) := (hb2.out.cell (p := ⟨ba, oa + k, none⟩) hla).trans (HR.out.cell ba oa rfl k (by omega))
          have hrs : Hid (Row wr bo m capb (limbs y)) := HS.out.below hb2.out
          have g1 := hblk2.out.cell (k + j) (by omega)
          have g2 := hblk2.out.frozen (k + j)
          obtain ⟨p1, p2, p3, p4⟩ := mul_bound (lm o (k + j)) (lm (limbs x) k) (lm (limbs y) j) c (lim_getD hLim2.out _) (lim_getD (lim_limbs x) _) (lim_getD (lim_limbs y) _) ⟨hc0, hc1⟩
          obtain ⟨bo0, bo1⟩ := lim_getD hLim2.out (k + j)
          have hki : (k : Int) < (n : Int) := by omega
          have hkj : (k : Int) + (j : Int) < ((n + m + 1 : Nat) : Int) := by omega
          by_cases hjm : j < m
          · have hji : (j : Int) < (m : Int) := by omega
            go_wp2
            go_quiet ((go_at_call 82; refine Calls.quiet_of_same (pdigit_any bo m capb j (limbs y) _ (hrs.out.below (below_drewN (Below.refl _ _) _)) (by omega) (by omega))))
            go_wp2
            go_roundw
            case rel =>
              exact ⟨j + 1, _, _, by omega, fun h => by omega, by go_num, rfl, by omega, by omega, by simpa using hol2, lim_set hLim2.out (k + j) _ (by omega) (by omega), mul_step o (limbs y) k j (lm (limbs x) k) c _ _ (by omega) rfl hval2.out, fun _ t ht => (lm_set o (k + j) t _ (by omega)).trans (hzero2.out (by omega) t ht), fun t ht => (lm_set o (k + j) t _ (by omega)).trans (hzero3.out t ht), (hblk2.out.below (below_drewN (Below.refl _ _) _) hgw2).set (k + j) _, (below_drewN hb2.out _).setCell (Nat.le_refl _) _⟩
            case measure => simp [intOf]; omega
          · have hji : ¬ (j : Int) < (m : Int) := by omega
            have hcp : 0 < c := by omega
            have hs0 : Hid (lm o (k + j) + lm (limbs x) k * lm (limbs y) j + c = c) := by
              show _ = _
              rw [lm_past (limbs y) j (by omega), hzero2.out (by omega) _ (by omega)]; omega
            go_wp2
            go_quiet ((go_at_call 82; refine Calls.quiet_of_same (pdigit_any bo m capb j (limbs y) _ (hrs.out.below (below_drewN (Below.refl _ _) _)) (by omega) (by omega))))
            go_wp2
            go_roundw
            case rel =>
              exact ⟨j + 1, _, _, by omega, fun h => by rw [hs0.out]; omega, by go_num, rfl, by omega, by omega, by simpa using hol2, lim_set hLim2.out (k + j) _ (by omega) (by omega), mul_step o (limbs y) k j (lm (limbs x) k) c _ _ (by omega) rfl hval2.out, fun h => by omega, fun t ht => (lm_set o (k + j) t _ (by omega)).trans (hzero3.out t ht), (hblk2.out.below (below_drewN (Below.refl _ _) _) hgw2).set (k + j) _, (below_drewN hb2.out _).setCell (Nat.le_refl _) _⟩
            case measure => simp [intOf]; omega
        · have hji : ¬ (j : Int) < (m : Int) := by omega
          have hc9 : c = 0 := by
            by_cases h : j = m + 1
            · exact hjc h
            · omega
          subst hc9
          have hvy : val ((limbs y).take j) = (y : Int) := by rw [List.take_of_length_le (by omega), val_limbs]
          have hE : Hid (val o = val ((limbs x).take (k + 1)) * (y : Int)) := by
            show _ = _
            have h := hval2.out
            rw [hvy, Int.mul_zero, Int.add_zero] at h
            rw [h, val_take_succ, Int.add_mul, Int.mul_assoc]
          clear hvy hjc
          go_wp2
          go_roundw
          case rel =>
            exact ⟨k + 1, _, by omega, by go_num, hol2, hLim2.out, hE.out, fun t ht => hzero3.out t (by omega), hblk2.out, hb2.out⟩
          case measure => simp [intOf]; omega
    · obtain rfl : k = n := by omega
      have hend : Hid ((val out).toNat = x * y) := by
        unfold Hid
        rw [hval.out, List.take_of_length_le (by omega), val_limbs]
        have : (x : Int) * (y : Int) = ((x * y : Nat) : Int) := by simp
        omega
      have hrow := hid (Blk.row0 hblk.out (k + m + 1) (k + m + 1) (by omega) (Nat.le_refl _) (by unfold maxLen; omega))
      go_wp2_with fail
      refine (pcut_any _ (k + m + 1) (k + m + 1) out _ hrow.out hLim.out (by omega)).mono ?_
      rintro e w4 ⟨j, hj, hj2, rfl, rfl⟩
      have HR2 := hid (row_of_cut hrow.out hj hj2 hend.out)
      clear hj2
      go_wp2
      go_ret
      exact ⟨_, rfl, ⟨_, _, _, rfl, HR2.out, Fr.here _ _ _⟩, hb.out⟩
end Go.Proofs.YtigokanoflkinaaGreatDoor

/- portionref.even, half, often. -/
namespace Go.Proofs.YtigokanoflkinaaGreatDoor
set_option linter.unusedSimpArgs false
set_option linter.unusedVariables false
open Go.RowKit Por

def evB (x : Nat) : Bool := decide (x % 2 = 0)

theorem lm_zero (x : Nat) : lm (limbs x) 0 = ((x % 10000 : Nat) : Int) := by
  by_cases h : x = 0
  · subst h; rfl
  · rw [limbs_pos x h]; rfl

set_option maxHeartbeats 400000 in
theorem peven_any (ao : Option Addr) (n cap : Nat) (x : Nat) (w : World) (hr : Row w ao n cap (limbs x)) (hn : n ≤ 60000) :
    Calls Tryz.prog 143 #[.slice ao n cap] w fun e w' => e = .returned (.bool (evB x)) ∧ w' = w := by
  have HR := hid hr
  clear hr
  have h0 := lm_zero x
  have h1 : 0 ≤ lm (limbs x) 0 := by omega
  have he : Hid (evB x = (lm (limbs x) 0 % 2 == 0)) := by
    show _ = _
    unfold evB
    rw [Bool.eq_iff_iff, decide_eq_true_iff, beq_iff_eq, h0]; omega
  rw [he.out]
  clear h0
  go_enter Tryz.func143, Tryz.ntmps143
  go_wp2_with fail
  refine (pdigit_any ao n cap 0 (limbs x) _ HR.out (by omega) (by omega)).mono ?_
  rintro e w2 ⟨rfl, rfl⟩
  go_wp2
  go_ret
  exact ⟨rfl, rfl⟩

theorem drop_cons (xs : List Int) (k : Nat) (h : k < xs.length) : xs.drop k = lm xs k :: xs.drop (k + 1) := by
  rw [List.drop_eq_getElem_cons h]
  unfold lm
  rw [List.getD_eq_getElem?_getD, List.getElem?_eq_getElem h]; rfl
theorem drop_set (xs : List Int) (k : Nat) (v : Int) (h : k < xs.length) : (xs.set k v).drop k = v :: xs.drop (k + 1) := by
  rw [drop_cons _ k (by simpa using h)]
  congr 1
  · unfold lm; simp [h]
  · rw [List.drop_set_of_lt (by omega)]
theorem half_step (o A : List Int) (k : Nat) (r v : Int) (hk : k < o.length) (hA : k < A.length) (hv : v = r * 10000 + lm A k) 
    (h : 2 * val (o.drop (k + 1)) + r = val (A.drop (k + 1))) : 2 * val ((o.set k (v / 2)).drop k) + v % 2 = val (A.drop k) := by
  rw [drop_set o k _ hk, drop_cons A k hA, val, val]
  omega

set_option maxHeartbeats 1000000 in
set_option maxRecDepth 20000 in
theorem phalf_any (ao : Option Addr) (n capa : Nat) (x : Nat) (w : World) (hr : Row w ao n capa (limbs x)) (hn : n ≤ 50000) :
    Calls Tryz.prog 144 #[.slice ao n capa] w fun e w' => ∃ v, e = .returned v ∧ Sli w.heap.size w' v (x / 2) ∧ Below w.heap.size w w' := by
  have l1 := hr.len
  have HR := hid (hr)
  clear hr
  go_enter Tryz.func144, Tryz.ntmps144
  go_wp2_with (at_make; refine wpList_make_ints _ rfl _ _ rfl _ _ n rfl rfl (by omega) (by omega) (by omega) ?_)
  intro w1 hk1 hb1 hz1
  have HB1 := hid (hb1)
  have HK1 := hid (hk1)
  clear hb1 hk1
  go_wp2
  go_loopw [4, 5] (fun vr vi wr => ∃ (k : Nat) (r : Int) (out : List Int), k ≤ n ∧ vi = .int .i64 ((k : Int) - 1) ∧ vr = .int .i64 r ∧ 0 ≤ r ∧ r ≤ 1 ∧ out.length = n ∧ Hid (Lim out) ∧
      Hid (2 * val (out.drop k) + r = val ((limbs x).drop k)) ∧ Hid (Blk wr w.heap.size out) ∧ Hid (Below w.heap.size w wr)) (fun _ vi _ => (intOf vi + 1).toNat)
  case atStart => exact ⟨n, 0, _, Nat.le_refl _, rfl, rfl, by omega, by omega, by simp, lim_replicate _, by show _ = _; rw [List.drop_of_length_le (by simp), List.drop_of_length_le (by omega)]; rfl, HK1.out, HB1.out⟩
  case round =>
    obtain ⟨k, r, out, hk, rfl, rfl, hr0, hr1, hol, hLim, hval, hblk, hb⟩ := hrel
    by_cases h0 : k = 0
    · subst h0
      have hend : Hid ((val out).toNat = x / 2) := by
        show _ = _
        have h := hval.out
        rw [List.drop_zero, List.drop_zero, val_limbs] at h
        omega
      have hrow := hid (Blk.row0 hblk.out n n (by omega) (Nat.le_refl _) (by unfold maxLen; omega))
      go_wp2_with fail
      refine (pcut_any _ n n out _ hrow.out hLim.out (by omega)).mono ?_
      rintro e w4 ⟨j, hj, hj2, rfl, rfl⟩
      have HR2 := hid (row_of_cut hrow.out hj hj2 hend.out)
      clear hj2
      go_wp2
      go_ret
      exact ⟨_, rfl, ⟨_, _, _, rfl, HR2.out, Fr.here _ _ _⟩, hb.out⟩
    · obtain ⟨q, rfl⟩ : ∃ q, k = q + 1 := ⟨k - 1, by omega⟩
      obtain ⟨ba, oa, rfl, hla⟩ := HR.out.head (by omega)
      have d1 : wr.cell? ⟨ba, oa + q, none⟩ = some (.int .i64 (lm (limbs x) q)) := (hb.out.cell (p := ⟨ba, oa + q, none⟩) hla).trans (HR.out.cell ba oa rfl q (by omega))
      obtain ⟨bx0, bx1⟩ := lim_getD (lim_limbs x) q
      have g1 := hblk.out.cell q (by omega)
      have g2 := hblk.out.frozen q
      have hq1 : (0 : Int) ≤ ((q + 1 : Nat) : Int) - 1 := by omega
      go_wp2
      go_roundw
      case rel =>
        exact ⟨q, _, _, by omega, by go_num, rfl, by omega, by omega, by simpa using hol, lim_set hLim.out q _ (by omega) (by omega), half_step out (limbs x) q r _ (by omega) (by omega) rfl hval.out, hblk.out.set q _, hb.out.setCell (Nat.le_refl _) _⟩
      case measure => simp [intOf]

theorem often_end (a b lo hi : Nat) (h1 : lo * b ≤ a) (h2 : a < hi * b) (h3 : lo < hi) (h4 : hi ≤ lo + 1) : lo = a / b := by
  obtain rfl : hi = lo + 1 := by omega
  rw [Nat.add_mul] at h2
  exact (divmod_of a b lo (a - lo * b) (by omega) (by omega)).1

theorem cmp3_pos (x y : Nat) (h : y < x) : ¬ cmp3 x y ≤ 0 := by rw [cmp3_gt x y h]; omega

set_option maxHeartbeats 1000000 in
set_option maxRecDepth 20000 in
theorem poften_any (ao bo : Option Addr) (n capa m capb : Nat) (x y : Nat) (w : World) (hr : Row w ao n capa (limbs x)) (hs : Row w bo m capb (limbs y)) (hn : n ≤ 15000) (hm : m ≤ 15000) (hxy : x < 10000 * y) (Q : Nat) (hQ : Q = x / y) :
    Calls Tryz.prog 145 #[.slice ao n capa, .slice bo m capb] w fun e w' => e = .returned (.int .i64 Q) ∧ Below w.heap.size w w' := by
  have l2 := hs.len
  have HR := hid (hr)
  have HS := hid (hs)
  have HXY := hid hxy
  have HQ := hid hQ
  clear hr hs hxy hQ
  go_enter Tryz.func145, Tryz.ntmps145
  go_wp2
  go_loopw [5, 6] (fun vl vh wr => ∃ (lo hi : Nat), lo < hi ∧ hi ≤ 10000 ∧ vl = .int .i64 lo ∧ vh = .int .i64 hi ∧ Hid (lo * y ≤ x) ∧ Hid (x < hi * y) ∧ Hid (Below w.heap.size w wr)) (fun vl vh _ => (intOf vh - intOf vl).toNat)
  case atStart => exact ⟨0, 10000, by omega, Nat.le_refl _, rfl, rfl, by show _ ≤ _; omega, HXY.out, Below.refl _ _⟩
  case round =>
    obtain ⟨lo, hi, h3, h4, rfl, rfl, h1, h2, hb⟩ := hrel
    by_cases hend : hi ≤ lo + 1
    · have E := hid (often_end x y lo hi h1.out h2.out h3 hend)
      have hne : ¬ (1 : Int) < (hi : Int) - (lo : Int) := by omega
      go_wp2
      go_ret
      exact ⟨by rw [HQ.out, ← E.out]; rfl, hb.out⟩
    · have hgo : (1 : Int) < (hi : Int) - (lo : Int) := by omega
      obtain ⟨mid, hmid, hm1, hm2⟩ : ∃ mid : Nat, ((lo : Int) + (hi : Int)) / 2 = (mid : Int) ∧ lo < mid ∧ mid < hi := ⟨(lo + hi) / 2, by omega, by omega, by omega⟩
      have hms : (limbs mid).length ≤ 1 := len_limbs_le (by omega)
      have hra : Hid (Row wr ao n capa (limbs x)) := HR.out.below hb.out
      have hrs : Hid (Row wr bo m capb (limbs y)) := HS.out.below hb.out
      go_wp2_with fail
      rw [hmid]
      refine (pwhole_any mid _ (by omega)).mono ?_
      rintro e w2 ⟨v, rfl, ⟨co, p, capc, rfl, hrc, _⟩, hb2⟩
      have HRC := hid hrc
      have hrc2 := hrc.len
      have hra2 := hid (hra.out.below hb2)
      have hrs2 := hid (hrs.out.below hb2)
      have HB2 : Hid (Below w.heap.size w w2) := hb.out.trans (hb2.mono hb.out.size)
      clear hrc hb2
      go_wp2_with fail
      refine (ptimes_any bo co m capb p capc y mid _ hrs2.out HRC.out (by omega) (by omega)).mono ?_
      rintro e w3 ⟨v, rfl, ⟨eo, q, cape, rfl, hrd, _⟩, hb3⟩
      have HRD := hid hrd
      have hrd2 := hrd.len
      have hql := len_mul y mid
      have hra3 := hid (hra2.out.below hb3)
      have HB3 : Hid (Below w.heap.size w w3) := HB2.out.trans (hb3.mono HB2.out.size)
      clear hrd hb3
      go_wp2_with fail
      refine (pcmp_any eo ao q cape n capa (y * mid) x _ HRD.out hra3.out (by omega) (by omega)).mono ?_
      rintro e w4 ⟨rfl, hb4⟩
      have HB4 : Hid (Below w.heap.size w w4) := HB3.out.trans (hb4.mono HB3.out.size)
      clear hb4
      obtain ⟨c0, c1⟩ := cmp3_bd ((y * mid : Nat) : Int) (x : Int)
      have hcl := cmp3_le (y * mid) x
      have hcg := cmp3_pos (y * mid) x
      generalize cmp3 ((y * mid : Nat) : Int) (x : Int) = C at *
      by_cases hle : y * mid ≤ x
      · have hc := hcl hle
        have hle' := hid hle
        clear hle hcl hcg
        go_wp2
        go_roundw
        case rel => exact ⟨mid, hi, hm2, h4, rfl, rfl, by show _ ≤ _; rw [Nat.mul_comm]; exact hle'.out, h2.out, HB4.out⟩
        case measure => simp [intOf]; omega
      · have hc := hcg (by omega)
        have hle' := hid (show x < mid * y by rw [Nat.mul_comm]; omega)
        clear hle hcl hcg
        go_wp2
        go_roundw
        case rel => exact ⟨lo, mid, hm1, by omega, rfl, rfl, h1.out, hle'.out, HB4.out⟩
        case measure => simp [intOf]; omega
end Go.Proofs.YtigokanoflkinaaGreatDoor
