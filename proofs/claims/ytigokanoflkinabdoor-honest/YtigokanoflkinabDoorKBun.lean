/- portionkeep bundle, atMost. (Laid by mkkeepb.py.) -/
import Derived.Test.YtigokanoflkinabDoorKAsk
import Derived.Test.YtigokanoflkinabDoorWUse
import Derived.Test.YtigokanoflkinabDoorWKeep
namespace Go.Proofs.YtigokanoflkinabDoor
set_option linter.unusedSimpArgs false
set_option linter.unusedVariables false
open Go.RowKit Por

/-- a text in memory -/
def tb (q : Rat) : ByteArray := ⟨(txt q).toArray⟩
/-- a list of texts of fractions, of the call's own -/
def TO (base : Nat) (w : World) (v : Value) (l : List Rat) : Prop := w.ownsRow base 9 1 v l.length (l.map (fun q => Value.string ⟨(txt q).toArray⟩))
theorem TO.nil (base : Nat) (w : World) : TO base w (.slice none 0 0) [] := World.ownsRow_nil _ _ _ _
theorem TO.below {base : Nat} {w w' : World} {v : Value} {l : List Rat} (h : TO base w v l) (hb : Below w.heap.size w w') : TO base w' v l := by
  obtain ⟨h0, h⟩ := h
  refine ⟨h0, ?_⟩
  rcases h with h | ⟨g, cap, cur, h1, h2, h3, h4⟩
  · exact .inl h
  · exact .inr ⟨g, cap, cur, h1, h2, (hb.block g (Array.getElem?_eq_some_iff.1 h3).1).trans h3, h4⟩
theorem TO.alloc {base : Nat} {w : World} {v : Value} {l : List Rat} (h : TO base w v l) (o : Obj) : TO base (w.alloc o) v l := h.below ((Below.refl _ _).alloc (Nat.le_refl _) o)
theorem TO.arr {base : Nat} {w : World} {v : Value} {l : List Rat} (h : TO base w v l) : ∃ ao cap, v = .slice ao l.length cap ∧ Arr w 1 ao l.length cap (strs (l.map tb)) := by
  obtain ⟨h0, h⟩ := h
  rcases h with ⟨rfl, h⟩ | ⟨g, cap, cur, rfl, hb, h3, h4, h5, h6, h7⟩
  · obtain rfl : l = [] := List.length_eq_zero_iff.1 h
    exact ⟨none, 0, rfl, Arr.nil _ _⟩
  · refine ⟨_, _, rfl, ⟨by simp [strs], h4, h5, fun _ => ⟨g, 0, rfl, (Array.getElem?_eq_some_iff.1 h3).1⟩, ?_⟩⟩
    intro b o e i v hv j u hu
    cases e
    have hi : i < l.length := by simpa [strs] using (List.getElem?_eq_some_iff.1 hv).1
    unfold strs at hv
    rw [List.map_map, List.getElem?_map, List.getElem?_eq_getElem hi] at hv
    cases hv
    match j with
    | 0 =>
      rw [Nat.zero_add, cell_of_row w g _ _ _ _ h3]
      have e1 : cur.toList[i * 1 + 0]? = (cur.toList.take (l.length * 1))[i * 1 + 0]? := by rw [List.getElem?_take, if_pos (by omega)]
      rw [← Array.getElem?_toList, e1, h7, List.getElem?_map, Nat.mul_one, Nat.add_zero, List.getElem?_eq_getElem hi]
      exact hu
    | j + 1 => simp [Value.cells] at hu
theorem Tryd.infoStr : (Tryd.prog.info? 9).map (fun i => (i.zero, i.size, i.bytes)) = some (some (.string ⟨#[]⟩), 1, 16) := by kernel_rfl
/-- out = append(out, text) -/
theorem wpList_append_txt (w : World) {ops : Array Oper} {rest : List Oper} {o : Oper} {a : Act} {Q : Exit → Act → World → Prop} (hgd : o.guard = none) (s x : Operand)
    (hop : o.op = Op.call { callee := Callee.builtin Builtin.append, args := #[s, x], argTypes := #[32, 32] })
    (base : Nat) (v : Value) (l : List Rat) (ad : Addr) (c : Nat) (q : Rat) (hs : a.eval s = v) (hx : a.eval x = .slice (some ad) 1 c) (hown : TO base w v l)
    (h0 : w.cell? (ad.add 0) = some (.string ⟨(txt q).toArray⟩)) (hle : l.length ≤ 100000) (hb : base ≤ w.heap.size)
    (h : ∀ v' w', TO base w' v' (l ++ [q]) → Below base w w' → wpList Tryd.prog ops Q rest (a.put o.dst v') w') : wpList Tryd.prog ops Q (o :: rest) a w := by
  obtain ⟨i, hi, hz0, hz1, hz2⟩ := info_parts Tryd.infoStr
  have hob : ∀ k, v.ownBlock = some k → base ≤ k := by
    intro k hk
    rcases hown.2 with ⟨rfl, _⟩ | ⟨g, cap, cur, rfl, h2, _⟩
    · cases hk
    · cases hk; exact h2
  refine wpList_append_own w hgd s x _ hop base 9 i (.string ⟨#[]⟩) 1 16 Tryd.underlying32 hi hz0 hz1 hz2 rfl (by decide) v l.length _ hs hown ad 1 c [.string ⟨(txt q).toArray⟩] hx (by simp) ?_ ?_ (by unfold maxLen; omega) (by omega) hb ?_
  · intro j u hj
    match j with
    | 0 => rw [h0]; simpa using hj
    | j + 1 => simp at hj
  · intro u hu
    simp at hu
    subst hu; rfl
  · intro v' w' h2 h3 _
    refine h v' w' ?_ ((Below.refl base w).grown h3 hb hob)
    unfold TO
    rw [List.length_append, List.map_append]
    exact h2
/-- what so many tasks take of each kind, times q -/
def bunL (t q : Rat) (dem : List Int) : Nat → List Rat
  | 0 => []
  | k + 1 => bunL t q dem k ++ [t * ((lm dem k : Int) : Rat) * q]
theorem bunL_len (t q : Rat) (dem : List Int) (k : Nat) : (bunL t q dem k).length = k := by
  induction k with
  | zero => rfl
  | succ k ih => simp only [bunL, List.length_append, List.length_singleton, ih]
theorem bunL_get (t q : Rat) (dem : List Int) : ∀ k r, r < k → rq (bunL t q dem k) r = t * ((lm dem r : Int) : Rat) * q := by
  intro k
  induction k with
  | zero => intro r h; omega
  | succ k ih =>
    intro r hr
    simp only [bunL, rq]
    rw [List.getD_eq_getElem?_getD]
    by_cases e : r = k
    · subst e; rw [List.getElem?_append_right (by rw [bunL_len]; exact Nat.le_refl _), bunL_len]; simp
    · rw [List.getElem?_append_left (by rw [bunL_len]; omega)]
      have := ih r (by omega)
      unfold rq at this
      rwa [List.getD_eq_getElem?_getD] at this
theorem Dg.amt {n : Int} (h : amtB n = true) : Dg (n : Rat) 5 := by
  have e1 : (n : Rat).num = n := Rat.num_intCast n
  have e2 : (n : Rat).den = 1 := Rat.den_intCast n
  have := amt_rng h
  unfold Dg
  rw [e1, e2]
  exact ⟨by omega, by omega⟩

set_option maxHeartbeats 2000000 in
set_option maxRecDepth 20000 in
theorem bundle_any (p : Value) (da : Option Addr) (dn dc : Nat) (u : Usr) (t q : Rat) (a b2 : Nat) (w : World) (hd : Arr w 1 da dn dc (ints u.dem)) (hda : ∀ i, amtB (lm u.dem i) = true) (hdn : dn ≤ 4) (hx : Dg t a) (hy : Dg q b2) (ha1 : 1 ≤ a) (hb1 : 1 ≤ b2) (hab : a + 5 + b2 ≤ 149) (ht : Tab w) :
    Calls Tryd.prog 9 #[p, .agg #[.slice da dn dc, .int .i64 u.wt, .int .i64 u.cap], .string ⟨(txt (t)).toArray⟩, .string ⟨(txt (q)).toArray⟩] w fun e w' => ∃ v, e = .returned v ∧ TO (w.heap.size + 1) w' v (bunL t q u.dem dn) ∧ Below w.heap.size w w' := by
  have hdl := hd.len
  rw [ints_len] at hdl
  have hdm := Nat.le_trans hd.le hd.cm
  unfold maxLen at hdm
  have HD := hid hd
  have HDA := hid hda
  have HT := hid ht
  have HX := hid hx
  have HY := hid hy
  clear hd hda ht hx hy
  have HB_0 := hid (Below.refl w.heap.size w)
  have XU_1 := hid (bx_new w #[.slice da dn dc, .int .i64 u.wt, .int .i64 u.cap] 31)
  have HB_1 : Hid (Below w.heap.size w (w.alloc (.cells #[.slice da dn dc, .int .i64 u.wt, .int .i64 u.cap] 31))) := HB_0.out.alloc HB_0.out.size (.cells #[.slice da dn dc, .int .i64 u.wt, .int .i64 u.cap] 31)
  have leU : w.heap.size ≤ w.heap.size := HB_0.out.size
  clear HB_0
  go_enter Tryd.func9, Tryd.ntmps9
  go_wp2
  go_loopg [9, 10] dn (fun g s9 ix wr => ∃ (k : Nat) (v9 : Value), v9 = s9 ∧ g = dn - k ∧ k ≤ dn ∧ ix = .int .i64 k ∧ Hid (TO (w.heap.size + 1) wr v9 (bunL t q u.dem k)) ∧ Hid (Bx wr w.heap.size #[.slice da dn dc, .int .i64 u.wt, .int .i64 u.cap] 31) ∧ Hid (Below w.heap.size w wr))
  case atStart => exact ⟨0, _, rfl, rfl, Nat.zero_le _, rfl, TO.nil _ _, XU_1.out, HB_1.out⟩
  case round =>
    clear XU_1 HB_1
    obtain ⟨k, v9, rfl, hgk, hk, rfl, hO, hX, hB⟩ := hrel
    have hol := bunL_len t q u.dem k
    have u0 := hX.out.cell 0 _ rfl
    have ltu := hX.out.lt
    by_cases hlt : k < dn
    · obtain ⟨b, o, rfl, hbl⟩ := HD.out.head (by omega)
      have c0 := (HD.out.below hB.out).int rfl hlt
      have hpr := amt_rng (HDA.out k)
      have HDK := hid (Dg.amt (HDA.out k))
      have hkd : (k : Int) < (dn : Int) := by omega
      generalize hz : lm u.dem k = z at c0 hpr HDK
      have HZ := hid hz
      clear hz
      go_wp2_with fail
      refine (itoa_any z (by omega) (by omega) _ (HT.out.of hB.out)).mono ?_
      rintro e20 w20 ⟨rfl, hb20⟩
      have XU_21 := hid (hX.out.keep hb20)
      have Ro_21 := hid (hO.out.below hb20)
      have HB_21 : Hid (Below w.heap.size w w20) := hB.out.trans (hb20.mono hB.out.size)
      clear hX hO hB
      clear hb20
      clear c0 u0 ltu
      rw [← txt_int z]
      go_wp2_with fail
      refine (k_mul p t ((z : Int) : Rat) a 5 _ HX.out HDK.out ha1 (by omega) (by omega) (by omega) (HT.out.of HB_21.out)).mono ?_
      rintro e21 w21 ⟨rfl, hb21⟩
      have XU_22 := hid (XU_21.out.keep hb21)
      have Ro_22 := hid (Ro_21.out.below hb21)
      have HB_22 : Hid (Below w.heap.size w w21) := HB_21.out.trans (hb21.mono HB_21.out.size)
      clear XU_21 Ro_21 HB_21
      clear hb21
      have HXY := hid (HX.out.mul HDK.out)
      go_wp2_with fail
      refine (k_mul p (t * ((z : Int) : Rat)) q (a + 5) b2 _ HXY.out HY.out (by omega) hb1 (by omega) (by omega) (HT.out.of HB_22.out)).mono ?_
      rintro e22 w22 ⟨rfl, hb22⟩
      have XU_23 := hid (XU_22.out.keep hb22)
      have Ro_23 := hid (Ro_22.out.below hb22)
      have HB_23 : Hid (Below w.heap.size w w22) := HB_22.out.trans (hb22.mono HB_22.out.size)
      clear XU_22 Ro_22 HB_22
      clear hb22
      have leW : w.heap.size < w22.heap.size := XU_23.out.lt
      go_wp2_with (at_builtin; refine wpList_append_txt _ rfl _ _ rfl (w.heap.size + 1) _ (bunL t q u.dem k) ⟨w22.heap.size, 0, none⟩ 1 (t * ((z : Int) : Rat) * q) rfl rfl (Ro_23.out.alloc _) ((bx_new w22 #[.string ⟨(txt (t * ((z : Int) : Rat) * q)).toArray⟩] 9).cell 0 _ rfl) (by omega) (by simp only [World.size_alloc]; omega) ?_)
      intro v' w' hO2 hB2
      have HO2 := hid hO2
      have HB2 : Hid (Below w.heap.size w w') := (HB_23.out.alloc HB_23.out.size _).trans (hB2.mono (by omega))
      have HX2 : Hid (Bx w' w.heap.size #[.slice (some ⟨b, o, none⟩) dn dc, .int .i64 u.wt, .int .i64 u.cap] 31) := (bx_past XU_23.out _).below hB2 (by omega)
      clear hO2 hB2
      have E : bunL t q u.dem (k + 1) = bunL t q u.dem k ++ [t * ((z : Int) : Rat) * q] := by simp only [bunL]; rw [HZ.out]
      have HE := hid E; clear E
      go_wp2
      go_roundg (dn - (k + 1))
      case measure => omega
      case rel => exact ⟨k + 1, _, rfl, rfl, by omega, by go_num, by rw [HE.out]; exact HO2.out, HX2.out, HB2.out⟩
    · obtain rfl : k = dn := by omega
      go_wp2
      go_ret
      exact ⟨_, rfl, hO.out, hB.out⟩

set_option maxHeartbeats 2000000 in
set_option maxRecDepth 20000 in
theorem atMost_any (p : Value) (da : Option Addr) (dn dc : Nat) (u : Usr) (vo : Option Addr) (m cap2 : Nat) (ss : List ByteArray) (mq tq : Rat) (i j : Nat) (w : World) (hd : Arr w 1 da dn dc (ints u.dem)) (hs : Arr w 1 vo m cap2 (strs ss)) (htx : ∀ i, (tx ss i).size ≤ maxLen) (hu : usefulOf u ss = (txt mq, 0)) (hm : Dg mq i) (hq : Dg tq j) (hi1 : 1 ≤ i) (hj1 : 1 ≤ j) (hi2 : i ≤ 149) (hj2 : j ≤ 149) (ht : Tab w) :
    Calls Tryd.prog 7 #[p, .agg #[.slice da dn dc, .int .i64 u.wt, .int .i64 u.cap], .slice vo m cap2, .string ⟨(txt (tq)).toArray⟩] w fun e w' => e = .returned (.bool (decide (mq ≤ tq))) ∧ Below w.heap.size w w' := by
  have HD := hid hd
  have HS := hid hs
  have HTX := hid htx
  have HT := hid ht
  have HM := hid hm
  have HQ := hid hq
  have HU := hid hu
  clear hd hs htx ht hm hq hu
  have HB_0 := hid (Below.refl w.heap.size w)
  have XU_1 := hid (bx_new w #[.slice da dn dc, .int .i64 u.wt, .int .i64 u.cap] 31)
  have HB_1 : Hid (Below w.heap.size w (w.alloc (.cells #[.slice da dn dc, .int .i64 u.wt, .int .i64 u.cap] 31))) := HB_0.out.alloc HB_0.out.size (.cells #[.slice da dn dc, .int .i64 u.wt, .int .i64 u.cap] 31)
  have leU : w.heap.size ≤ w.heap.size := HB_0.out.size
  clear HB_0
  go_enter Tryd.func7, Tryd.ntmps7
  go_wp2_with fail
  refine (useful_any da dn dc u vo m cap2 ss _ (HD.out.below HB_1.out) (HS.out.below HB_1.out) HTX.out (HT.out.of HB_1.out)).mono ?_
  rintro e1 w1 ⟨rfl, hb1⟩
  have XU_2 := hid (XU_1.out.keep hb1)
  have HB_2 : Hid (Below w.heap.size w w1) := HB_1.out.trans (hb1.mono HB_1.out.size)
  clear XU_1 HB_1
  clear hb1
  rw [HU.out]
  go_wp2_with fail
  refine (look_ok p _).mono ?_
  rintro e7 w7 ⟨rfl, rfl⟩
  go_wp2_with fail
  refine (k_cmp p mq tq i j _ HM.out HQ.out hi1 hj1 hi2 hj2 (HT.out.of HB_2.out)).mono ?_
  rintro e2 w2 ⟨rfl, hb2⟩
  have XU_3 := hid (XU_2.out.keep hb2)
  have HB_3 : Hid (Below w.heap.size w w2) := HB_2.out.trans (hb2.mono HB_2.out.size)
  clear XU_2 HB_2
  clear hb2
  generalize hcq : cmpQ mq tq = c
  have HCQ := hid hcq
  clear hcq
  have E : decide (c ≤ 0) = decide (mq ≤ tq) := by
    have h9 := HCQ.out
    rw [decide_eq_decide, ← h9]
    constructor
    · intro h5; exact Rat.not_lt.1 (fun h6 => by have := cmp_gt.2 h6; omega)
    · intro h5; exact Int.not_lt.1 (fun h6 => by have := cmp_gt.1 h6; exact absurd h5 (Rat.not_le.2 this))
  have HE := hid E; clear E
  go_wp2
  go_ret
  exact ⟨by rw [← HE.out]; rfl, HB_3.out⟩

end Go.Proofs.YtigokanoflkinabDoor
