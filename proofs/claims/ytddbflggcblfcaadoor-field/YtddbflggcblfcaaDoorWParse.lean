/- natural.isWhole, valueOf, Parse: what they answer of any text. -/
import Derived.Test.YtddbflggcblfcaaDoorWAdd
import Derived.Test.YtddbflggcblfcaaDoorTextA
import Derived.Test.YtddbflggcblfcaaDoorWMul
import Derived.Lib.Strings
namespace Go.Proofs.YtddbflggcblfcaaDoor
set_option linter.unusedSimpArgs false
set_option linter.unusedVariables false
open Go.RowKit Por

theorem take_snoc (s : ByteArray) (k : Nat) (h : k < s.size) : s.data.toList.take (k + 1) = s.data.toList.take k ++ [s[k]] := by
  rw [List.take_succ_eq_append_getElem (by simpa using h)]; rfl

set_option maxHeartbeats 400000 in
theorem isWhole_any (s : ByteArray) (w : World) (hs : s.size ≤ 100000) :
    Calls Tryd.prog 147 #[.string s] w fun e w' => e = .returned (.bool (wholeB s.data.toList)) ∧ w' = w := by
  by_cases h0 : s.size = 0
  · have E : Hid (wholeB s.data.toList = false) := by
      have : s.data.toList = [] := List.eq_nil_of_length_eq_zero (by simpa using h0)
      show _ = _
      rw [this]; rfl
    have h0' : ((s.size : Int) == 0) = true := by simpa using h0
    go_enter Tryd.func147, Tryd.ntmps147
    go_wp2
    go_ret
    exact ⟨by rw [E.out]; rfl, rfl⟩
  · have h0' : ((s.size : Int) == 0) = false := by simpa using h0
    go_enter Tryd.func147, Tryd.ntmps147
    go_wp2
    go_loop [3] (fun i => ∃ k : Nat, k ≤ s.size ∧ i = .int .i64 k ∧ Hid ((s.data.toList.take k).all isDig = true)) (fun i => s.size - (intOf i).toNat)
    case atStart => exact ⟨0, Nat.zero_le _, rfl, rfl⟩
    case round =>
      obtain ⟨k, hk, rfl, hd⟩ := hrel
      by_cases hlt : k < s.size
      · have hts := take_snoc s k hlt
        have HS := hid hts
        clear hts
        have hbad : ¬ (48 ≤ s[k].toNat ∧ s[k].toNat ≤ 57) → Hid (wholeB s.data.toList = false) := by
          intro hb
          show _ = _
          cases hq : wholeB s.data.toList with
          | false => rfl
          | true =>
            exfalso
            have h1 := ((wholeB_iff _).1 hq).2.1
            have h2 := List.all_eq_true.1 h1 s[k] (by
              have := List.getElem_mem (l := s.data.toList) (n := k) (by simpa using hlt)
              exact this)
            exact hb ((isDig_iff _).1 h2)
        rcases Nat.lt_or_ge s[k].toNat 48 with hc | hc
        · have E := hbad (by omega)
          have hA : decide ((s[k].toNat : Int) < 48) = true := by simp; omega
          clear hbad
          go_wp2
          go_ret
          exact ⟨by rw [E.out]; rfl, rfl⟩
        · have hA : decide ((s[k].toNat : Int) < 48) = false := by simp; omega
          rcases Nat.lt_or_ge 57 s[k].toNat with hc2 | hc2
          · have E := hbad (by omega)
            have hB : decide (57 < (s[k].toNat : Int)) = true := by simp; omega
            clear hbad
            go_wp2
            go_ret
            exact ⟨by rw [E.out]; rfl, rfl⟩
          · have hB : decide (57 < (s[k].toNat : Int)) = false := by simp; omega
            have HD : Hid ((s.data.toList.take (k + 1)).all isDig = true) := by
              show _ = _
              rw [HS.out, List.all_append, hd.out]
              simp [isDig, hc, hc2]
            clear hbad
            go_wp2
            exact ⟨⟨k + 1, by omega, by go_num, HD.out⟩, by simp [intOf]; omega⟩
      · obtain rfl : k = s.size := by omega
        have hall : Hid (s.data.toList.all isDig = true) := by
          have := hd.out
          rwa [List.take_of_length_le (by simp)] at this
        have hp : 0 < s.size := by omega
        have hh : s.data.toList.head? = some s[0] := by
          rw [List.head?_eq_getElem?, List.getElem?_eq_getElem (by simpa using hp)]; rfl
        have E : Hid (wholeB s.data.toList = ((s.size : Int) == 1 || (s[0].toNat : Int) != 48)) := by
          show _ = _
          rw [Bool.eq_iff_iff, wholeB_iff, hh]
          have h2 : s.data.toList.length = s.size := by simp
          have h1 : s.data.toList ≠ [] := by intro hc; rw [hc, List.length_nil] at h2; omega
          have h3 : (some s[0] ≠ some (48 : UInt8)) ↔ (s[0].toNat : Int) ≠ 48 := by
            constructor
            · intro h hc; apply h; congr 1; apply UInt8.toNat_inj.1; have e : (48 : UInt8).toNat = 48 := rfl; omega
            · intro h hc; apply h; have := Option.some.inj hc; rw [this]; rfl
          rw [h2, h3]
          simp only [hall.out, h1, ne_eq, not_false_eq_true, true_and, Bool.or_eq_true, beq_iff_eq, bne_iff_ne]
          omega
        by_cases h1 : (s.size : Int) = 1
        · have h1' : ((s.size : Int) == 1) = true := by simpa using h1
          clear h1 hh
          go_wp2
          go_ret
          exact ⟨by rw [E.out, h1']; rfl, rfl⟩
        · have h1' : ((s.size : Int) == 1) = false := by simpa using h1
          clear h1 hh
          go_wp2
          go_ret
          exact ⟨by rw [E.out, h1']; rfl, rfl⟩

set_option maxHeartbeats 400000 in
theorem valueOf_any (s : ByteArray) (w : World) (hs : s.size ≤ 4) (hd : s.data.toList.all isDig = true) :
    Calls Tryd.prog 148 #[.string s] w fun e w' => e = .returned (.int .i64 (dv s.data.toList : Nat)) ∧ w' = w := by
  have HD := hid hd
  clear hd
  go_enter Tryd.func148, Tryd.ntmps148
  go_wp2
  go_loop [3, 4] (fun v i => ∃ k : Nat, k ≤ s.size ∧ i = .int .i64 k ∧ v = .int .i64 (dv (s.data.toList.take k) : Nat)) (fun _ i => s.size - (intOf i).toNat)
  case atStart => exact ⟨0, Nat.zero_le _, rfl, rfl⟩
  case round =>
    obtain ⟨k, hk, rfl, rfl⟩ := hrel
    by_cases hlt : k < s.size
    · have hts := take_snoc s k hlt
      have HS := hid hts
      have hb : 48 ≤ s[k].toNat ∧ s[k].toNat ≤ 57 := by
        have := List.all_eq_true.1 HD.out s[k] (List.getElem_mem (l := s.data.toList) (n := k) (by simpa using hlt))
        exact (isDig_iff _).1 this
      obtain ⟨hb0, hb1⟩ := hb
      have hv : dv (s.data.toList.take k) < 10000 := by
        have h1 := dv_lt (s.data.toList.take k) (by
          rw [List.all_eq_true]; intro x hx; exact List.all_eq_true.1 HD.out x (List.mem_of_mem_take hx))
        have h2 : (s.data.toList.take k).length ≤ 4 := by rw [List.length_take]; simp; omega
        have : (10 : Nat) ^ (s.data.toList.take k).length ≤ 10 ^ 4 := Nat.pow_le_pow_right (by omega) h2
        omega
      have E := hid (dv_snoc (s.data.toList.take k) s[k])
      clear hts
      go_wp2
      exact ⟨⟨k + 1, by omega, by go_num, by rw [HS.out, E.out]; congr 1; omega⟩, by simp [intOf]; omega⟩
    · go_wp2
      go_ret
      exact ⟨by rw [List.take_of_length_le (by simp; omega)]; rfl, rfl⟩

theorem wholeB_len {l : List UInt8} (h : wholeB l = true) : 1 ≤ l.length := by
  have := ((wholeB_iff _).1 h).1
  cases l with
  | nil => exact absurd rfl this
  | cons => simp

set_option maxHeartbeats 400000 in
theorem parse_no (s : ByteArray) (w : World) (hs : s.size ≤ 100000) (h : wholeB s.data.toList = false) :
    Calls Tryd.prog 131 #[.string s] w fun e w' => e = .returned (.tuple #[.agg #[.slice none 0 0], .bool false]) ∧ Below w.heap.size w w' := by
  go_enter Tryd.func131, Tryd.ntmps131
  go_wp2_with (go_at_call 147; refine (isWhole_any s _ hs).mono ?_; rintro e w' ⟨rfl, rfl⟩)
  refine bodyPost_ret (v := .tuple #[.agg #[.slice none 0 0], .bool false]) (by simp [results, Tryd.results131, go_sem]) rfl ⟨rfl, (Below.refl _ _).alloc (Nat.le_refl _) _⟩

set_option maxHeartbeats 1000000 in
theorem parse_yes (s : ByteArray) (w : World) (hs : s.size ≤ 100000) (h : wholeB s.data.toList = true) :
    Calls Tryd.prog 131 #[.string s] w fun e w' => ∃ v, e = .returned (.tuple #[v, .bool true]) ∧ Num w' v (dv s.data.toList) ∧ Below w.heap.size w w' := by
  have X0 := hid (bx_new w #[.slice none 0 0] 74)
  have hb0 := hid ((Below.refl _ w).alloc (Nat.le_refl _) (.cells #[.slice none 0 0] 74))
  have hp := wholeB_len h
  have hsl : s.data.toList.length = s.size := by simp
  rw [hsl] at hp
  have hall := hid (((wholeB_iff _).1 h).2.1)
  go_enter Tryd.func131, Tryd.ntmps131
  go_wp2_with (first
    | (go_at_call 147; refine (isWhole_any s _ hs).mono ?_; rintro e w' ⟨rfl, rfl⟩)
    | (at_make; refine wpList_make_ints _ rfl _ _ rfl _ _ (s.size / 4 + 1) rfl rfl (by omega) (by omega) (by omega) ?_))
  intro w1 hk1 hb1 hz1
  have X1 := hid (X0.out.below hb1 (by omega))
  have HB1 : Hid (Below w.heap.size w w1) := hb0.out.trans (hb1.mono (by omega))
  have HK1 := hid hk1
  obtain ⟨G, hG⟩ : ∃ G, G = w.heap.size + 1 := ⟨_, rfl⟩
  have hsz : w.heap.size + 1 ≤ G := by omega
  rw [← hG] at HK1 ⊢
  clear hb1 hk1 hG hb0 X0 h
  go_wp2
  go_loopw [5, 6] (fun ve vi wr => ∃ (k e : Nat) (out : List Int), e ≤ s.size ∧ 4 * k + e ≤ s.size + 3 ∧ (e = 0 ∨ 4 * k + e = s.size) ∧ ve = .int .i64 e ∧ vi = .int .i64 k ∧ out.length = s.size / 4 + 1 ∧ Hid (Lim out) ∧
      Hid ((dv s.data.toList : Int) = dv (s.data.toList.take e) * 10000 ^ k + val (out.take k)) ∧ Hid (∀ t, k ≤ t → lm out t = 0) ∧ Hid (Blk wr G out) ∧ Hid (Below G w1 wr)) (fun ve _ _ => (intOf ve).toNat)
  case atStart =>
    refine ⟨0, s.size, _, Nat.le_refl _, by omega, .inr (by omega), rfl, rfl, by simp, lim_replicate _, ?_, fun t _ => lm_replicate _ t, HK1.out, Below.refl _ _⟩
    show _ = _
    rw [List.take_of_length_le (by omega)]; simp [val]
  case round =>
    obtain ⟨k, e, out, he, hke, hke2, rfl, rfl, hol, hLim, hval, hzero, hblk, hb⟩ := hrel
    by_cases e0 : e = 0
    · subst e0
      have hend : Hid ((val out).toNat = dv s.data.toList) := by
        have h1 := hval.out
        rw [List.take_zero, dv_nil, val_take_of_zero out k (fun i hi _ => hzero.out i hi)] at h1
        show _ = _
        simp at h1
        omega
      have hrow := hid (Blk.row0 hblk.out (s.size / 4 + 1) (s.size / 4 + 1) hol.symm (Nat.le_refl _) (by unfold maxLen; omega))
      have hgw : G < wr.heap.size := hblk.out.lt
      go_wp2_with fail
      refine (trim_any _ (s.size / 4 + 1) (s.size / 4 + 1) out _ hrow.out hLim.out (by omega)).mono ?_
      rintro e w4 ⟨j, hj, hj2, rfl, hb4⟩
      have hbb : Hid (Below G w1 w4) := hb.out.trans (hb4.mono (by omega))
      have Z := hid (X1.out.below hbb.out (by omega))
      have z1 := Z.out.cell 0 _ rfl
      have z2 := Z.out.frozen 0
      have HR2 := hid (row_of_trim hrow.out hj hj2 hend.out hb4)
      clear hb4 hj2
      go_wp2
      refine bodyPost_ret (v := .tuple #[.agg #[.slice (some ⟨G, 0, none⟩) j (s.size / 4 + 1)], .bool true]) (by simp [results, Tryd.results131, go_sem, z1]) rfl ⟨_, rfl, ⟨_, _, _, rfl, HR2.out.other _ _ _ Z.out (by decide)⟩, ?_⟩
      exact (HB1.out.trans (hbb.out.mono (by omega))).setCell (Nat.le_refl _) _
    · have hgw : G < wr.heap.size := hblk.out.lt
      have hkl : k < out.length := by omega
      have g1 := hblk.out.cell k hkl
      have g2 := hblk.out.frozen k
      have hch : (s.extract (e - 4) e).data.toList = (s.data.toList.take e).drop (e - 4) := by rw [Go.Lib.extract_data, List.drop_take]
      have hdig : Hid ((s.extract (e - 4) e).data.toList.all isDig = true) := by
        show _ = _
        rw [hch, List.all_eq_true]
        intro x hx
        exact List.all_eq_true.1 hall.out x (List.mem_of_mem_take (List.mem_of_mem_drop hx))
      have hcl : (s.extract (e - 4) e).size ≤ 4 := by
        have : (s.extract (e - 4) e).data.toList.length = (s.extract (e - 4) e).size := by rw [Array.length_toList]; rfl
        rw [hch, List.length_drop, List.length_take] at this
        omega
      have hstep := hid (parse_step s.data.toList e k out hkl (by omega) hval.out)
      have hlt : Hid (dv ((s.data.toList.take e).drop (e - 4)) < 10000) := by
        have h1 := dv_lt _ hdig.out
        rw [hch] at h1
        have h2 : ((s.data.toList.take e).drop (e - 4)).length ≤ 4 := by rw [List.length_drop, List.length_take]; omega
        have : (10 : Nat) ^ ((s.data.toList.take e).drop (e - 4)).length ≤ 10 ^ 4 := Nat.pow_le_pow_right (by omega) h2
        show _ < _
        omega
      have HC := hid hch
      clear hch
      have hpe : (0 : Int) < (e : Int) := by omega
      by_cases h4 : e < 4
      · have hA : (e : Int) - 4 < 0 := by omega
        have h0e : e - 4 = 0 := by omega
        rw [h0e] at hstep hdig hcl hlt HC
        clear h0e
        go_wp2_with fail
        refine (valueOf_any _ _ hcl hdig.out).mono ?_
        rintro _ _ ⟨rfl, rfl⟩
        rw [HC.out]
        go_wp2
        go_roundw
        case rel =>
          exact ⟨k + 1, 0, _, by omega, by omega, .inl rfl, rfl, by go_num, by simpa using hol, lim_set hLim.out k _ (by omega) (by have := hlt.out; omega), hstep.out, fun t ht => (lm_set out k t _ (by omega)).trans (hzero.out t (by omega)), hblk.out.set k _, hb.out.setCell (Nat.le_refl _) _⟩
        case measure => simp [intOf]; omega
      · have hA : ¬ (e : Int) - 4 < 0 := by omega
        go_wp2_with fail
        refine (valueOf_any _ _ hcl hdig.out).mono ?_
        rintro _ _ ⟨rfl, rfl⟩
        rw [HC.out]
        go_wp2
        go_roundw
        case rel =>
          exact ⟨k + 1, e - 4, _, by omega, by omega, by omega, by go_num, by go_num, by simpa using hol, lim_set hLim.out k _ (by omega) (by have := hlt.out; omega), hstep.out, fun t ht => (lm_set out k t _ (by omega)).trans (hzero.out t (by omega)), hblk.out.set k _, hb.out.setCell (Nat.le_refl _) _⟩
        case measure => simp [intOf]; omega
end Go.Proofs.YtddbflggcblfcaaDoor
