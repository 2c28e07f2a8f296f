/- portionref.cut, digit, whole, compare: what they answer of any numbers. -/
import Derived.Test.YtddbflggcblfcaaDoorWBase
import Derived.Laws.AppendOwn
import Derived.Laws.AppendOwnNone
namespace Go.Proofs.YtddbflggcblfcaaDoor
set_option linter.unusedSimpArgs false
set_option linter.unusedVariables false
open Go.RowKit Por

/- A number of the reference in memory: a slice of its limbs. -/
/-- laid at B or behind it; nil has no room -/
def Fr (B : Nat) (ao : Option Addr) (cap : Nat) : Prop := (ao = none → cap = 0) ∧ ∀ a, ao = some a → B ≤ a.block
def Sli (B : Nat) (w : World) (v : Value) (m : Nat) : Prop := ∃ ao n cap, v = .slice ao n cap ∧ Row w ao n cap (limbs m) ∧ Fr B ao cap
theorem Fr.here (g o cap : Nat) : Fr g (some ⟨g, o, none⟩) cap := ⟨fun h => (by cases h), fun a h => (by cases h; exact Nat.le_refl _)⟩
theorem Fr.mono {B C : Nat} {ao : Option Addr} {cap : Nat} (h : Fr B ao cap) (hc : C ≤ B) : Fr C ao cap := ⟨h.1, fun a e => Nat.le_trans hc (h.2 a e)⟩

set_option maxHeartbeats 400000 in
set_option maxRecDepth 10000 in
theorem pcut_any (ao : Option Addr) (n cap : Nat) (xs : List Int) (w : World) (hr : Row w ao n cap xs) (hL : Lim xs) (hn : n ≤ 60000) :
    Calls Tryd.prog 102 #[.slice ao n cap] w fun e w' =>
      ∃ m, m ≤ n ∧ xs.take m = limbs (val xs).toNat ∧ e = .returned (.slice ao m cap) ∧ w' = w := by
  have hlen := hr.len
  have hle := hr.le
  have hcm := hr.cm
  unfold maxLen at hcm
  go_enter Tryd.func102, Tryd.ntmps102
  go_wp2
  go_loop [3] (fun v => ∃ m : Nat, m ≤ n ∧ v = .int .i64 m ∧ Hid (∀ i, m ≤ i → i < xs.length → lm xs i = 0)) (fun v => (intOf v).toNat)
  case atStart => exact ⟨n, Nat.le_refl _, rfl, fun i h1 h2 => by omega⟩
  case round =>
    obtain ⟨m, hm, rfl, hz⟩ := hrel
    by_cases h0 : m = 0
    · subst h0
      have E := trim_eq xs 0 hL (by omega) (fun i h1 h2 => hz.out i h1 h2) (.inl rfl)
      have HE := hid (E); clear E
      go_wp2
      go_ret
      exact ⟨0, by omega, HE.out, rfl, rfl⟩
    · obtain ⟨b, o, rfl, hlt⟩ := hr.head (by omega)
      have hc := hr.cell b o rfl (m - 1) (by omega)
      obtain ⟨q, rfl⟩ : ∃ q, m = q + 1 := ⟨m - 1, by omega⟩
      simp only [Nat.add_sub_cancel] at hc
      by_cases hx : lm xs q = 0
      · rw [hx] at hc
        have hx' := hid (hx)
        clear hr hx
        go_wp2
        exact ⟨⟨q, by omega, rfl, fun i h1 h2 => by
          by_cases e : i = q
          · rw [e]; exact hx'.out
          · exact hz.out i (by omega) h2⟩, by simp [intOf]⟩
      · have hx0 : (lm xs q == 0) = false := by simpa using hx
        have E := trim_eq xs (q + 1) hL (by omega) (fun i h1 h2 => hz.out i h1 h2) (.inr hx)
        have HE := hid (E); clear E
        clear hr
        go_wp2
        go_ret
        exact ⟨q + 1, by omega, HE.out, rfl, rfl⟩

set_option maxHeartbeats 400000 in
theorem pdigit_any (ao : Option Addr) (n cap i : Nat) (xs : List Int) (w : World) (hr : Row w ao n cap xs) (hn : n ≤ 60000) (hi : i ≤ 60000) :
    Calls Tryd.prog 101 #[.slice ao n cap, .int .i64 i] w fun e w' => e = .returned (.int .i64 (lm xs i)) ∧ w' = w := by
  by_cases h : i < n
  · obtain ⟨b, o, rfl, hlt⟩ := hr.head (by omega)
    have hc := hr.cell b o rfl i h
    clear hr
    go_enter Tryd.func101, Tryd.ntmps101
    go_wp2
    go_ret
    exact ⟨rfl, rfl⟩
  · have e : lm xs i = 0 := by
      have := hr.len
      unfold lm; rw [List.getD_eq_getElem?_getD, List.getElem?_eq_none (by omega)]; rfl
    rw [e]
    clear hr e
    go_enter Tryd.func101, Tryd.ntmps101
    go_wp2
    go_ret
    exact ⟨rfl, rfl⟩

set_option maxHeartbeats 400000 in
theorem pcmp_any (ao bo : Option Addr) (n capa m capb : Nat) (x y : Nat) (w : World) (hr : Row w ao n capa (limbs x)) (hs : Row w bo m capb (limbs y)) (hn : n ≤ 60000) (hm : m ≤ 60000) :
    Calls Tryd.prog 94 #[.slice ao n capa, .slice bo m capb] w fun e w' => e = .returned (.int .i64 (cmp3 x y)) ∧ Below w.heap.size w w' := by
  have l1 := hr.len
  have l2 := hs.len
  have vx := val_limbs x
  have vy := val_limbs y
  rcases Nat.lt_trichotomy n m with h | h | h
  · have e : cmp3 x y = -1 := by
      have := val_lt_of_len (lim_limbs x) (lim_limbs y) (topped_limbs y) (by omega)
      unfold cmp3; rw [if_pos (by omega)]
    rw [e]
    have hb1 : ((n : Int) == (m : Int)) = false := by rw [beq_eq_false_iff_ne]; omega
    clear e hr hs l1 l2 vx vy
    go_enter Tryd.func94, Tryd.ntmps94
    go_wp2
    go_ret
    exact ⟨rfl, Below.refl _ _⟩
  · subst h
    have HR := hid (hr)
    have HS := hid (hs)
    have HX := hid (vx)
    have HY := hid (vy)
    clear hr hs vx vy
    go_enter Tryd.func94, Tryd.ntmps94
    go_wp2
    go_loopw [5] (fun v wr => ∃ k : Nat, k ≤ n ∧ v = .int .i64 ((k : Int) - 1) ∧ Hid (∀ j, k ≤ j → j < n → lm (limbs x) j = lm (limbs y) j) ∧ Below w.heap.size w wr) (fun v _ => (intOf v + 1).toNat)
    case atStart => exact ⟨n, Nat.le_refl _, rfl, fun j h1 h2 => by omega, Below.refl _ _⟩
    case round =>
      obtain ⟨k, hk, rfl, hz, hB⟩ := hrel
      have HB := hid (hB)
      by_cases k0 : k = 0
      · subst k0
        have e : cmp3 x y = 0 := by
          have := ext_getD n l1 l2 (fun i hi => hz.out i (by omega) hi)
          have : (x : Int) = y := by rw [← HX.out, ← HY.out, this]
          unfold cmp3; rw [if_neg (by omega), if_pos this]
        clear hB
        go_wp2
        go_ret
        exact ⟨by rw [e]; rfl, HB.out⟩
      · obtain ⟨q, rfl⟩ : ∃ q, k = q + 1 := ⟨k - 1, by omega⟩
        obtain ⟨ba, oa, rfl, hla⟩ := HR.out.head (by omega)
        obtain ⟨bb, ob, rfl, hlb⟩ := HS.out.head (by omega)
        have d1 : wr.cell? ⟨ba, oa + q, none⟩ = some (.int .i64 (lm (limbs x) q)) := (hB.cell (p := ⟨ba, oa + q, none⟩) hla).trans (HR.out.cell ba oa rfl q (by omega))
        have d2 : wr.cell? ⟨bb, ob + q, none⟩ = some (.int .i64 (lm (limbs y) q)) := (hB.cell (p := ⟨bb, ob + q, none⟩) hlb).trans (HS.out.cell bb ob rfl q (by omega))
        clear hB
        have hq1 : (0 : Int) ≤ ((q + 1 : Nat) : Int) - 1 := by omega
        rcases Int.lt_trichotomy (lm (limbs x) q) (lm (limbs y) q) with hlt | heq | hgt
        · have e : cmp3 x y = -1 := by
            have := val_cmp_lt _ _ (lim_limbs x) (lim_limbs y) n l1 l2 q (by omega) (fun i h1 h2 => hz.out i (by omega) h2) hlt
            rw [HX.out, HY.out] at this
            unfold cmp3; rw [if_pos this]
          have He := hid (e); clear e
          go_wp2
          go_quiet (fail)
          go_wp2
          go_ret
          exact ⟨by rw [He.out]; rfl, below_drewN HB.out _⟩
        · have hlt1 : ¬ lm (limbs x) q < lm (limbs y) q := by omega
          have hlt2 : ¬ lm (limbs y) q < lm (limbs x) q := by omega
          have He := hid (heq); clear heq
          go_wp2
          go_quiet (fail)
          go_wp2
          go_quiet (fail)
          go_wp2
          go_roundw
          case rel => exact ⟨q, by omega, by go_num, fun j h1 h2 => (by
            by_cases e : j = q
            · rw [e]; exact He.out
            · exact hz.out j (by omega) h2), below_drewN HB.out _⟩
          case measure => simp [intOf]
        · have hlt1 : ¬ lm (limbs x) q < lm (limbs y) q := by omega
          have e : cmp3 x y = 1 := by
            have := val_cmp_lt _ _ (lim_limbs y) (lim_limbs x) n l2 l1 q (by omega) (fun i h1 h2 => (hz.out i (by omega) h2).symm) hgt
            rw [HX.out, HY.out] at this
            unfold cmp3; rw [if_neg (by omega), if_neg (by omega)]
          have He := hid (e); clear e
          go_wp2
          go_quiet (fail)
          go_wp2
          go_quiet (fail)
          go_wp2
          go_ret
          exact ⟨by rw [He.out]; rfl, by first | exact below_drewN HB.out _ | exact below_drewN (below_drewN HB.out _) _⟩
  · have e : cmp3 x y = 1 := by
      have := val_lt_of_len (lim_limbs y) (lim_limbs x) (topped_limbs x) (by omega)
      unfold cmp3; rw [if_neg (by omega), if_neg (by omega)]
    rw [e]
    have hb1 : ((n : Int) == (m : Int)) = false := by rw [beq_eq_false_iff_ne]; omega
    clear e hr hs l1 l2 vx vy
    go_enter Tryd.func94, Tryd.ntmps94
    go_wp2
    go_ret
    exact ⟨rfl, Below.refl _ _⟩

/-- A row of ints of the call's own. -/
def Own (base : Nat) (w : World) (v : Value) (l : List Int) : Prop := w.ownsRow base 3 1 v l.length (l.map (Value.int .i64))

theorem Own.nil (base : Nat) (w : World) : Own base w (.slice none 0 0) [] := ⟨rfl, .inl ⟨rfl, rfl⟩⟩
theorem Own.below {base : Nat} {w w' : World} {v : Value} {l : List Int} (h : Own base w v l) (hb : Below w.heap.size w w') : Own base w' v l := by
  obtain ⟨h0, h⟩ := h
  refine ⟨h0, ?_⟩
  rcases h with h | ⟨g, cap, cur, h1, h2, h3, h4⟩
  · exact .inl h
  · exact .inr ⟨g, cap, cur, h1, h2, (hb.block g (Array.getElem?_eq_some_iff.1 h3).1).trans h3, h4⟩
theorem Own.row {base : Nat} {w : World} {v : Value} {l : List Int} (h : Own base w v l) : ∃ ao cap, v = .slice ao l.length cap ∧ Row w ao l.length cap l ∧ Fr base ao cap := by
  obtain ⟨h0, h⟩ := h
  rcases h with ⟨rfl, h⟩ | ⟨g, cap, cur, rfl, h2, h3, h4, h5, h6, h7⟩
  · obtain rfl : l = [] := List.length_eq_zero_iff.1 h
    exact ⟨none, 0, rfl, Row.nil w, fun _ => rfl, fun a h => by cases h⟩
  · refine ⟨_, _, rfl, ⟨rfl, h4, h5, fun _ => ⟨g, 0, rfl, (Array.getElem?_eq_some_iff.1 h3).1⟩, fun b o e _ => (by cases e; exact ⟨_, _, h3⟩), fun b o e j hj => ?_⟩, (Fr.here g 0 cap).mono h2⟩
    cases e
    rw [Nat.zero_add, cell_of_row w g j _ _ _ h3]
    have e1 : cur.toList[j]? = (cur.toList.take (l.length * 1))[j]? := by rw [List.getElem?_take, if_pos (by omega)]
    rw [← Array.getElem?_toList, e1, h7, List.getElem?_map]
    unfold lm
    rw [List.getD_eq_getElem?_getD, List.getElem?_eq_getElem hj]
    rfl

/-- out = append(out, more...) -/
theorem wpList_append_ints (w : World) {ops : Array Oper} {rest : List Oper} {o : Oper} {a : Act} {Q : Exit → Act → World → Prop} (hgd : o.guard = none) (s x : Operand)
    (hop : o.op = Op.call { callee := Callee.builtin Builtin.append, args := #[s, x], argTypes := #[29, 29] })
    (base : Nat) (v : Value) (l : List Int) (ad : Addr) (m c : Nat) (news : List Int) (hs : a.eval s = v) (hx : a.eval x = .slice (some ad) m c) (hown : Own base w v l) (hm : news.length = m)
    (hnews : ∀ j, j < m → w.cell? (ad.add j) = some (.int .i64 (lm news j)))
    (hle : l.length + m ≤ 1000000) (hb : base ≤ w.heap.size)
    (h : ∀ v' w', Own base w' v' (l ++ news) → Below base w w' → wpList Tryd.prog ops Q rest (a.put o.dst v') w') : wpList Tryd.prog ops Q (o :: rest) a w := by
  obtain ⟨i, hi, hz0, hz1, hz2⟩ := info_parts Tryd.infoInt
  have hob : ∀ k, v.ownBlock = some k → base ≤ k := by
    intro k hk
    rcases hown.2 with ⟨rfl, _⟩ | ⟨g, cap, cur, rfl, h2, _⟩
    · cases hk
    · cases hk; exact h2
  refine wpList_append_own w hgd s x _ hop base 3 i (.int .i64 0) 1 8 Tryd.underlying29 hi hz0 hz1 hz2 rfl (by decide) v l.length _ hs hown ad m c (news.map (Value.int .i64)) hx (by simp [hm]) ?_ ?_ (by unfold maxLen; omega) (by omega) hb ?_
  · intro j u hj
    have hjl : j < m := by have := (List.getElem?_eq_some_iff.1 hj).1; simpa [hm] using this
    rw [hnews j hjl, ← hj]
    unfold lm
    rw [List.getD_eq_getElem?_getD, List.getElem?_map, List.getElem?_eq_getElem (by omega)]; rfl
  · intro u hu
    obtain ⟨z, _, rfl⟩ := List.mem_map.1 hu
    rfl
  · intro v' w' h2 h3 _
    refine h v' w' ?_ ((Below.refl base w).grown h3 hb hob)
    unfold Own
    rw [List.length_append, hm, List.map_append]
    exact h2
theorem wpList_append_nil (w : World) {ops : Array Oper} {rest : List Oper} {o : Oper} {a : Act} {Q : Exit → Act → World → Prop} (hgd : o.guard = none) (s x : Operand)
    (hop : o.op = Op.call { callee := Callee.builtin Builtin.append, args := #[s, x], argTypes := #[29, 29] })
    (base : Nat) (v : Value) (l : List Int) (hs : a.eval s = v) (hx : a.eval x = .slice none 0 0) (hown : Own base w v l)
    (h : wpList Tryd.prog ops Q rest (a.put o.dst v) w) : wpList Tryd.prog ops Q (o :: rest) a w := by
  obtain ⟨i, hi, hz0, hz1, hz2⟩ := info_parts Tryd.infoInt
  exact wpList_append_own_none hgd s x _ hop base 3 i 1 Tryd.underlying29 hi v l.length _ hs hown hx h

theorem limbs_step (l : List Int) (x v : Nat) (hv : v ≠ 0) (h : limbs x = l ++ limbs v) : limbs x = (l ++ [(v : Int) % 10000]) ++ limbs (v / 10000) := by
  rw [h, limbs_pos v hv, Int.natCast_emod]; simp

set_option maxHeartbeats 1000000 in
set_option maxRecDepth 20000 in
theorem pwhole_any (x : Nat) (w : World) (hx : x ≤ 9223372036854775807) :
    Calls Tryd.prog 67 #[.int .i64 x] w fun e w' => ∃ v, e = .returned v ∧ Sli w.heap.size w' v x ∧ Below w.heap.size w w' := by
  go_enter Tryd.func67, Tryd.ntmps67
  go_wp2
  have h5 : (limbs x).length ≤ 5 := len_limbs_le (by omega)
  go_loopw [0, 3] (fun v0 v3 wr => ∃ (v : Nat) (l : List Int), v ≤ x ∧ v0 = .int .i64 v ∧ l.length + (limbs v).length ≤ 5 ∧ Hid (limbs x = l ++ limbs v) ∧ Hid (Own w.heap.size wr v3 l) ∧ Hid (Below w.heap.size w wr)) (fun v0 _ _ => (intOf v0).toNat)
  case atStart => exact ⟨x, [], Nat.le_refl _, rfl, by simp; exact h5, rfl, Own.nil _ _, Below.refl _ _⟩
  case round =>
    obtain ⟨v, l, hv, rfl, hl, hE, hO, hB⟩ := hrel
    have hBs := hB.out.size
    by_cases h0 : v = 0
    · have E : limbs x = l := by rw [hE.out, h0, limbs_zero, List.append_nil]
      obtain ⟨ao, cap, rfl, hrow, hne⟩ := hO.out.row
      have HR := hid hrow
      have HE := hid E
      clear hrow E
      subst h0
      go_wp2
      go_ret
      exact ⟨_, rfl, ⟨_, _, _, rfl, by rw [HE.out]; exact HR.out, hne⟩, hB.out⟩
    · have hv0 : (0 : Int) < (v : Int) := by omega
      have hE2 := hid (limbs_step l x v h0 hE.out)
      have hlv : (limbs v).length = (limbs (v / 10000)).length + 1 := by rw [limbs_pos v h0]; simp
      go_wp2_with (at_builtin; refine wpList_append_ints _ rfl _ _ rfl w.heap.size _ l ⟨wr.heap.size, 0, none⟩ 1 1 [(v : Int) % 10000] rfl rfl (hO.out.below ((Below.refl _ _).alloc (Nat.le_refl _) _)) rfl (by intro j hj; obtain rfl : j = 0 := (by omega); simp [Addr.add, lm]) (by omega) (Nat.le_trans hBs (by simp)) ?_)
      intro v' w' hO2 hB2
      have HO2 := hid hO2
      have HB2 : Hid (Below w.heap.size w w') := ((hB.out.alloc hB.out.size _).trans hB2)
      clear hO2 hB2
      go_wp2
      go_roundw
      case rel => exact ⟨v / 10000, _, by omega, by go_num, by simp; omega, hE2.out, HO2.out, HB2.out⟩
      case measure => simp [intOf]; omega
end Go.Proofs.YtddbflggcblfcaaDoor
