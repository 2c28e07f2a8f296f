/- natural.roomyCopy, Quotient, Remainder: division of any two numbers. -/
import Derived.Test.YtddbflggcblfcaaDoorWDivC
import Derived.Laws.CopyOwn
namespace Go.Proofs.YtddbflggcblfcaaDoor
set_option linter.unusedSimpArgs false
set_option linter.unusedVariables false
open Go.RowKit Por

theorem Tryd.sizeInt : (Tryd.prog.info? 3).map (·.size) = some 1 := by kernel_rfl

/-- copy(dst, src) into a row of the call's own, from its head on -/
theorem wpList_copy_ints (w : World) {ops : Array Oper} {rest : List Oper} {o : Oper} {a : Act} {Q : Exit → Act → World → Prop} (hgd : o.guard = none) (d s : Operand)
    (ho : o.op = .call { callee := .builtin .copy, args := #[d, s], argTypes := #[29, 29] }) (g n dLen dCap cap : Nat) (so : Option Addr) (D xs : List Int)
    (hd : a.eval d = .slice (some ⟨g, 0, none⟩) dLen dCap) (hs : a.eval s = .slice so n cap) (hk : Blk w g D) (hD : D.length = dLen) (hr : Row w so n cap xs) (hle : n ≤ dLen)
    (h : ∀ w', Hid (Blk w' g (xs ++ D.drop n)) → Below g w w' → wpList Tryd.prog ops Q rest (a.put o.dst (goInt n)) w') : wpList Tryd.prog ops Q (o :: rest) a w := by
  have hl := hr.len
  have hcl : ((xs.map (Value.int .i64)).length : Int) = n := by simp [hl]
  refine wpList_copy_splice hgd d s _ _ ho 3 Tryd.underlying29 Tryd.sizeInt (some ⟨g, 0, none⟩) so dLen dCap n cap hd hs g 0 (D.map (Value.int .i64)) 3 hk (xs.map (Value.int .i64)) (by rw [List.length_map, hl]; exact (Nat.min_eq_left hle).symm) ?_ (by simp; omega) ?_ g w (Below.refl _ _) (Nat.le_refl _) ?_
  · intro hp
    obtain ⟨b, off, e, _⟩ := hr.head (by simpa [hl] using hp)
    refine ⟨rfl, ⟨b, off, none⟩, e, fun j v hv => ?_⟩
    have hj : j < n := by
      have := (List.getElem?_eq_some_iff.1 hv).1
      simpa [hl] using this
    have := hr.cell b off e j hj
    rw [show (⟨b, off, none⟩ : Addr).add j = ⟨b, off + j, none⟩ by simp [Addr.add], this]
    rw [← hv]
    unfold lm
    simp [show j < xs.length by omega]
  · intro v hv
    obtain ⟨x, _, rfl⟩ := List.mem_map.1 hv
    rfl
  · intro w' hk' hb
    rw [hcl]
    refine h w' ?_ hb
    have := hk'.out
    unfold splice at this
    show w'.heap[g]? = _
    rw [this]
    simp [hl]

set_option maxHeartbeats 400000 in
set_option maxRecDepth 10000 in
theorem roomyCopy_any (ao : Option Addr) (n cap : Nat) (xs : List Int) (w : World) (hr : Row w ao n cap xs) (hn : n ≤ 60000) :
    Calls Tryd.prog 145 #[.agg #[.slice ao n cap]] w fun e w' => ∃ g, e = .returned (.slice (some ⟨g, 0, none⟩) (n + 1 : Nat) (n + 1 : Nat)) ∧ w.heap.size ≤ g ∧ Blk w' g (xs ++ [0]) ∧ Below w.heap.size w w' := by
  have X0 := hid (bx_new w #[.slice ao n cap] 74)
  have hb0 := hid ((Below.refl _ w).alloc (Nat.le_refl _) (.cells #[.slice ao n cap] 74))
  have HR := hid (hr.below hb0.out)
  clear hr
  go_enter Tryd.func145, Tryd.ntmps145
  go_wp2_with (at_make; refine wpList_make_ints _ rfl _ _ rfl _ _ (n + 1) rfl rfl (by omega) (by omega) (by omega) ?_)
  intro w1 hk1 hb1 hz1
  have X1 := hid (X0.out.below hb1 (by omega))
  have k1 := X1.out.cell 0 _ rfl
  have HR1 := hid (HR.out.below (hb1.mono (by simp)))
  have HB1 := hid hb1
  have HK1 := hid hk1
  clear hb1 hk1
  go_wp2_with (refine wpList_copy_ints _ rfl (.tmp 9) (.tmp 11) rfl (w.heap.size + 1) n (n + 1) (n + 1) cap ao (List.replicate (n + 1) 0) xs rfl rfl HK1.out (by simp) HR1.out (by omega) ?_)
  intro w2 hk2 hb2
  have HB2 := hid hb2
  clear hb2
  go_wp2
  go_ret
  refine ⟨w.heap.size + 1, rfl, by omega, ?_, hb0.out.trans ((HB1.out.mono (by omega)).trans (HB2.out.mono (by omega)))⟩
  exact hk2.out

theorem lm_snoc (xs : List Int) (n : Nat) (h : xs.length = n) : lm (xs ++ [0]) n = 0 := by subst h; unfold lm; simp
theorem val_snoc (xs : List Int) : val (xs ++ [0]) = val xs := by rw [val_append]; simp [val]
theorem lim_snoc {xs : List Int} (h : Lim xs) : Lim (xs ++ [0]) := by
  intro x hx
  rcases List.mem_append.1 hx with hx | hx
  · exact h x hx
  · have := List.mem_singleton.1 hx; omega
theorem topped_lm {B : List Int} (h : Topped B) (hL : Lim B) (n : Nat) (hn : B.length = n + 1) : 1 ≤ lm B n := by
  have := lim_getD hL n
  have h2 : lm B n ≠ 0 := by
    intro hc; apply h
    rw [List.getLast?_eq_getElem?, hn, Nat.add_sub_cancel]
    unfold lm at hc
    rw [List.getElem?_eq_getElem (by omega)]
    simpa [show n < B.length by omega] using hc
  omega

/-- takeOffAll, whatever the two are: the quotient (0 by 0) and the rest (all of it by 0) -/
theorem takeOffAll_any (g n capb m : Nat) (bo : Option Addr) (x y : Nat) (w : World) (hk : Blk w g (limbs x ++ [0])) (hl : (limbs x).length = n) (hs : Row w bo m capb (limbs y)) (hne : ∀ b o', bo = some ⟨b, o', none⟩ → 0 < m → b ≠ g) (hn : n ≤ 40000) (hm : m ≤ 40000) :
    Calls Tryd.prog 146 #[.slice (some ⟨g, 0, none⟩) (n + 1 : Nat) (n + 1 : Nat), .slice bo m capb] w fun e w' =>
      ∃ (qo : Option Addr) (qn qcap : Nat) (Q Z' : List Int), e = .returned (.slice qo qn qcap) ∧ qn ≤ n + 1 ∧ Lim Q ∧ Lim Z' ∧ Z'.length = n + 1 ∧ (val Q).toNat = x / y ∧ (val Z').toNat = x % y ∧ Row w' qo qn qcap Q ∧ Blk w' g Z' ∧ w.grownBy w' (some g) := by
  have l2 := hs.len
  have hZL := lim_snoc (lim_limbs x)
  have hv : val (limbs x ++ [0]) = (x : Int) := by rw [val_snoc, val_limbs]
  by_cases h : m = 0 ∨ n + 1 ≤ m
  · refine (takeOffAll_short g (n + 1) capb m bo w h (by omega) (by omega)).mono ?_
    rintro e w' ⟨rfl, rfl⟩
    have hq : x / y = 0 ∧ x % y = x := by
      by_cases hy : y = 0
      · subst hy; simp
      · have hm0 : m ≠ 0 := by intro hc; apply limbs_ne_nil hy; apply List.eq_nil_of_length_eq_zero; omega
        have hlt : x < y := by
          have h1 := val_lt_of_len (lim_limbs x) (lim_limbs y) (topped_limbs y) (by omega)
          rw [val_limbs, val_limbs] at h1; omega
        exact ⟨Nat.div_eq_of_lt hlt, Nat.mod_eq_of_lt hlt⟩
    refine ⟨none, 0, 0, [], _, rfl, by omega, by simp [Lim], hZL, by simp [hl], by rw [hq.1]; rfl, by rw [hq.2, hv]; omega, Row.nil _, hk, World.grownBy.refl _ _⟩
  · obtain ⟨k, rfl⟩ : ∃ k, m = k + 1 := ⟨m - 1, by omega⟩
    have htop := topped_lm (topped_limbs y) (lim_limbs y) k l2
    refine (takeOffAll_long g (n + 1) capb k bo _ (limbs y) w hk (by simp [hl]) hs (fun b o' e => hne b o' e (by omega)) hZL (lim_limbs y) htop (by rw [Nat.add_sub_cancel]; exact lm_snoc _ n hl) (by omega) (by omega)).mono ?_
    rintro e w' ⟨qo, qn, qcap, Q, Z', rfl, hqn, hd, hrow, hb, hg⟩
    have h1 := hd.sum
    have h2 := hd.small
    rw [hv, val_limbs] at h1
    rw [val_limbs] at h2
    have n1 := val_nonneg hd.limQ
    have n2 := val_nonneg hd.limZ
    have e1 : x = (val Q).toNat * y + (val Z').toNat := by
      have a1 : ((val Q).toNat : Int) = val Q := Int.toNat_of_nonneg n1
      have a2 : ((val Z').toNat : Int) = val Z' := Int.toNat_of_nonneg n2
      have a3 : (((val Q).toNat * y + (val Z').toNat : Nat) : Int) = x := by rw [Int.natCast_add, Int.natCast_mul, a1, a2]; exact h1
      omega
    obtain ⟨d1, d2⟩ := divmod_of x y _ _ e1 (by omega)
    exact ⟨qo, qn, qcap, Q, Z', rfl, hqn, hd.limQ, hd.limZ, by rw [hd.len]; simp [hl], d1, d2, hrow, hb, hg⟩

set_option maxHeartbeats 400000 in
theorem quotient_any (ao bo : Option Addr) (n capa m capb : Nat) (x y : Nat) (w : World) (hr : Row w ao n capa (limbs x)) (hs : Row w bo m capb (limbs y)) (hn : n ≤ 40000) (hm : m ≤ 40000) :
    Calls Tryd.prog 121 #[.agg #[.slice ao n capa], .agg #[.slice bo m capb]] w fun e w' => ∃ v, e = .returned v ∧ Num w' v (x / y) ∧ Below w.heap.size w w' := by
  have l1 := hr.len
  obtain ⟨c1, c2, c3, c5⟩ := boxes3 w #[.slice ao n capa] #[.slice bo m capb] #[.slice none 0 0] 74 74 74
  have hr1 := hid (hr.below c5)
  have hs1 := hid (hs.below c5)
  have hbo : ∀ b o', bo = some ⟨b, o', none⟩ → 0 < m → b < w.heap.size := fun b o e h => by obtain ⟨b', o', e', hl⟩ := hs.head h; rw [e] at e'; cases e'; exact hl
  have HBO := hid hbo
  have H5 := hid c5
  have X2 := hid c2
  have X3 := hid c3
  clear hr hs c5 c1 c2 c3 hbo
  go_enter Tryd.func121, Tryd.ntmps121
  go_wp2_with fail
  refine (roomyCopy_any ao n capa (limbs x) _ hr1.out (by omega)).mono ?_
  rintro e w2 ⟨g, rfl, hg0, hk2, hb2⟩
  simp only [World.size_alloc] at hg0
  have Y2 := hid (X2.out.below hb2 X2.out.lt)
  have Y3 := hid (X3.out.below hb2 X3.out.lt)
  have y2 := Y2.out.cell 0 _ rfl
  have hs2 := hid (hs1.out.below hb2)
  have HB2 : Hid (Below w.heap.size w w2) := H5.out.trans (hb2.mono (by simp; omega))
  have HK2 := hid hk2
  have hgw : g < w2.heap.size := hk2.lt
  clear hb2 hk2 hr1 hs1 H5 X2 X3
  go_wp2_with fail
  refine (takeOffAll_any g n capb m bo x y _ HK2.out l1 hs2.out (fun b o' e h => by have := HBO.out b o' e h; omega) hn hm).mono ?_
  rintro e w3 ⟨qo, qn, qcap, Q, Z', rfl, hqn, hQL, hZL, hzl, hq, hz, hrow, hbk, hg⟩
  have W2 := hid ((hg.block _ Y2.out.lt (by intro e; cases e; omega)).trans Y2.out)
  have W3 : Hid (Bx w3 (w.heap.size + 1 + 1) #[.slice none 0 0] 74) := (hg.block _ Y3.out.lt (by intro e; cases e; omega)).trans Y3.out
  have HB3 : Hid (Below w.heap.size w w3) := (HB2.out).grown hg (by have := HB2.out.size; omega) (fun k e => by cases e; omega)
  have HR3 := hid hrow
  have HQ := hid hq
  have hsz : w.heap.size + 1 + 1 < w3.heap.size := W3.out.lt
  clear hrow hbk hg hq hz W2
  go_wp2_with fail
  refine (trim_any qo qn qcap Q _ HR3.out hQL (by omega)).mono ?_
  rintro e w4 ⟨j, hj, hj2, rfl, hb4⟩
  have Z4 := hid (W3.out.below hb4 hsz)
  have z1 := Z4.out.cell 0 _ rfl
  have z2 := Z4.out.frozen 0
  have HR4 := hid (row_of_trim HR3.out hj hj2 HQ.out hb4)
  have HB4 : Hid (Below w.heap.size w w4) := HB3.out.trans (hb4.mono (by omega))
  clear hb4 hj2
  go_wp2
  refine bodyPost_ret (v := .agg #[.slice qo j qcap]) (by simp [results, Tryd.results121, go_sem, z1]) rfl ⟨_, rfl, ⟨_, _, _, rfl, HR4.out.other _ _ _ Z4.out (by decide)⟩, ?_⟩
  exact HB4.out.setCell (by simp; omega) _

set_option maxHeartbeats 400000 in
theorem remainder_any (ao bo : Option Addr) (n capa m capb : Nat) (x y : Nat) (w : World) (hr : Row w ao n capa (limbs x)) (hs : Row w bo m capb (limbs y)) (hn : n ≤ 40000) (hm : m ≤ 40000) :
    Calls Tryd.prog 129 #[.agg #[.slice ao n capa], .agg #[.slice bo m capb]] w fun e w' => ∃ v, e = .returned v ∧ Num w' v (x % y) ∧ Below w.heap.size w w' := by
  have l1 := hr.len
  obtain ⟨c1, c2, c3, c5⟩ := boxes3 w #[.slice ao n capa] #[.slice bo m capb] #[.slice none 0 0] 74 74 74
  have hr1 := hid (hr.below c5)
  have hs1 := hid (hs.below c5)
  have hbo : ∀ b o', bo = some ⟨b, o', none⟩ → 0 < m → b < w.heap.size := fun b o e h => by obtain ⟨b', o', e', hl⟩ := hs.head h; rw [e] at e'; cases e'; exact hl
  have HBO := hid hbo
  have H5 := hid c5
  have X2 := hid c2
  have X3 := hid c3
  clear hr hs c5 c1 c2 c3 hbo
  go_enter Tryd.func129, Tryd.ntmps129
  go_wp2_with fail
  refine (roomyCopy_any ao n capa (limbs x) _ hr1.out (by omega)).mono ?_
  rintro e w2 ⟨g, rfl, hg0, hk2, hb2⟩
  simp only [World.size_alloc] at hg0
  have Y2 := hid (X2.out.below hb2 X2.out.lt)
  have Y3 := hid (X3.out.below hb2 X3.out.lt)
  have y2 := Y2.out.cell 0 _ rfl
  have hs2 := hid (hs1.out.below hb2)
  have HB2 : Hid (Below w.heap.size w w2) := H5.out.trans (hb2.mono (by simp; omega))
  have HK2 := hid hk2
  have hgw : g < w2.heap.size := hk2.lt
  clear hb2 hk2 hr1 hs1 H5 X2 X3
  go_wp2_with fail
  refine (takeOffAll_any g n capb m bo x y _ HK2.out l1 hs2.out (fun b o' e h => by have := HBO.out b o' e h; omega) hn hm).mono ?_
  rintro e w3 ⟨qo, qn, qcap, Q, Z', rfl, hqn, hQL, hZL, hzl, hq, hz, hrow, hbk, hg⟩
  have W3 : Hid (Bx w3 (w.heap.size + 1 + 1) #[.slice none 0 0] 74) := (hg.block _ Y3.out.lt (by intro e; cases e; omega)).trans Y3.out
  have HB3 : Hid (Below w.heap.size w w3) := (HB2.out).grown hg (by have := HB2.out.size; omega) (fun k e => by cases e; omega)
  have HR3 := hid (Blk.row0 hbk (n + 1) (n + 1) hzl.symm (Nat.le_refl _) (by unfold maxLen; omega))
  have HQ := hid hz
  have hsz : w.heap.size + 1 + 1 < w3.heap.size := W3.out.lt
  clear hrow hbk hg hq hz
  go_wp2_with fail
  refine (trim_any _ (n + 1) (n + 1) Z' _ HR3.out hZL (by omega)).mono ?_
  rintro e w4 ⟨j, hj, hj2, rfl, hb4⟩
  have Z4 := hid (W3.out.below hb4 hsz)
  have z1 := Z4.out.cell 0 _ rfl
  have z2 := Z4.out.frozen 0
  have HR4 := hid (row_of_trim HR3.out hj hj2 HQ.out hb4)
  have HB4 : Hid (Below w.heap.size w w4) := HB3.out.trans (hb4.mono (by omega))
  clear hb4 hj2
  go_wp2
  refine bodyPost_ret (v := .agg #[.slice (some ⟨g, 0, none⟩) j (n + 1)]) (by simp [results, Tryd.results129, go_sem, z1]) rfl ⟨_, rfl, ⟨_, _, _, rfl, HR4.out.other _ _ _ Z4.out (by decide)⟩, ?_⟩
  exact HB4.out.setCell (by simp; omega) _
end Go.Proofs.YtddbflggcblfcaaDoor
