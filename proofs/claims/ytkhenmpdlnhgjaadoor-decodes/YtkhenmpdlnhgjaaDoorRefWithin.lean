import Derived.Test.YtkhenmpdlnhgjaaDoorWithin3
namespace Go.Proofs.YtkhenmpdlnhgjaaDoor
open Go.RowKit

/-- What okPhr says, in the order of the document's answer. -/
theorem okPhr_head {f : Phr} (h1 : ¬ f.name.size = 0) (h2 : f.name.size ≤ 12) (h3 : f.args.length ≤ 6) (h4 : ¬ f.code.length = 0) (h5 : f.code.length ≤ 60) : okPhr f = (f.args.all (fun k => fit k 1) && f.code.all okIns) := by
  unfold okPhr okArgs okCode
  rw [decide_eq_true (show 1 ≤ f.name.size by omega), decide_eq_true h2, decide_eq_true h3, decide_eq_true (show 1 ≤ f.code.length by omega), decide_eq_true h5]; rfl
theorem okPhr_no {f : Phr} (h : f.name.size = 0 ∨ 12 < f.name.size ∨ 6 < f.args.length ∨ f.code.length = 0 ∨ 60 < f.code.length) : okPhr f = false := by
  unfold okPhr okArgs okCode
  rcases h with h | h | h | h | h
  · rw [decide_eq_false (show ¬ 1 ≤ f.name.size by omega)]; rfl
  · rw [decide_eq_false (show ¬ f.name.size ≤ 12 by omega)]; simp
  · rw [decide_eq_false (show ¬ f.args.length ≤ 6 by omega)]; simp
  · rw [decide_eq_false (show ¬ 1 ≤ f.code.length by omega)]; simp
  · rw [decide_eq_false (show ¬ f.code.length ≤ 60 by omega)]; simp
theorem isEmpty_yes {s : ByteArray} (h : s.size = 0) : s.toList.isEmpty = true := by
  rw [ByteArray.toList_eq, List.isEmpty_iff_length_eq_zero]; exact h
theorem isEmpty_no {s : ByteArray} (h : ¬ s.size = 0) : s.toList.isEmpty = false := by
  rw [ByteArray.toList_eq, ← Bool.not_eq_true, List.isEmpty_iff_length_eq_zero]; exact h

set_option maxHeartbeats 1000000 in
theorem refwithin_any (aa ac : Option Addr) (ca cc : Nat) (f : Phr) (w : World) (ha : IntsAt w aa f.args.length f.args) (hc : CodeAt w ac f.code.length f.code) (hla : f.args.length ≤ 17592186044416) (hlc : f.code.length ≤ 5864062014805)
    (hnm : f.name.size ≤ 140737488355328) :
    Calls Tryd.prog 22 #[.agg #[.string f.name, .slice aa f.args.length ca, .slice ac f.code.length cc]] w fun e w' => e = .returned (.bool (okPhr f)) ∧ Ext w w' := by
  have hx := (Ext.refl w).alloc (.cells #[.string f.name, .slice aa f.args.length ca, .slice ac f.code.length cc] 41)
  by_cases hbad : f.name.size = 0 ∨ 12 < f.name.size ∨ 6 < f.args.length ∨ f.code.length = 0 ∨ 60 < f.code.length
  · have HO : Hid (okPhr f = false) := okPhr_no hbad
    obtain ⟨nm, args, code⟩ := f
    simp only at ha hc hla hlc hnm hbad hx HO ⊢
    generalize args.length = na at *
    generalize code.length = nc at *
    by_cases h1 : nm.size = 0
    · have g1 := isEmpty_yes h1
      clear h1 hbad
      go_enter Tryd.func22, Tryd.ntmps22
      go_wp2
      go_ret
      exact ⟨ret_bool HO.out.symm, hx⟩
    · have g1 := isEmpty_no h1
      by_cases h2 : 12 < nm.size
      · have g2 : (12 : Int) < nm.size := by omega
        clear h1 hbad
        go_enter Tryd.func22, Tryd.ntmps22
        go_wp2
        go_ret
        exact ⟨ret_bool HO.out.symm, hx⟩
      · have g2 : ¬ (12 : Int) < nm.size := by omega
        by_cases h3 : 6 < na
        · have g3 : (6 : Int) < na := by omega
          clear h1 hbad
          go_enter Tryd.func22, Tryd.ntmps22
          go_wp2
          go_ret
          exact ⟨ret_bool HO.out.symm, hx⟩
        · have g3 : ¬ (6 : Int) < na := by omega
          by_cases h4 : nc = 0
          · have g4 : ((nc : Int) == 0) = true := by simp [h4]
            clear h1 hbad h4
            go_enter Tryd.func22, Tryd.ntmps22
            go_wp2
            go_ret
            exact ⟨ret_bool HO.out.symm, hx⟩
          · have g4 : ((nc : Int) == 0) = false := by rw [beq_eq_false_iff_ne]; omega
            have g5 : (60 : Int) < nc := by omega
            clear h1 hbad
            go_enter Tryd.func22, Tryd.ntmps22
            go_wp2
            go_ret
            exact ⟨ret_bool HO.out.symm, hx⟩
  · have HO : Hid (okPhr f = (f.args.all (fun k => fit k 1) && f.code.all okIns)) := okPhr_head (by omega) (by omega) (by omega) (by omega) (by omega)
    obtain ⟨nm, args, code⟩ := f
    simp only at ha hc hla hlc hnm hbad hx HO ⊢
    have g1 := isEmpty_no (show ¬ nm.size = 0 by omega)
    have g2 : ¬ (12 : Int) < nm.size := by omega
    generalize hna : args.length = na at *
    generalize hnc : code.length = nc at *
    have HLA := hide hna
    have HLC := hide hnc
    clear hna hnc
    have g3 : ¬ (6 : Int) < na := by omega
    have g4 : ((nc : Int) == 0) = false := by rw [beq_eq_false_iff_ne]; omega
    have g5 : ¬ (60 : Int) < nc := by omega
    clear hbad
    go_enter Tryd.func22, Tryd.ntmps22
    go_wp2
    obtain ⟨W1, HW⟩ : ∃ W1, Hid (W1 = w.alloc (.cells #[.string nm, .slice aa na ca, .slice ac nc cc] 41)) := ⟨_, rfl⟩
    rw [← HW.out] at hx
    have hbox : OwnRow W1 w.heap.size [.string nm, .slice aa na ca, .slice ac nc cc] 41 := by rw [HW.out]; exact OwnRow.alloc w [.string nm, .slice aa na ca, .slice ac nc cc] 41
    rw [← HW.out]
    clear HW
    have hb1 : W1.cell? ⟨w.heap.size, 1, none⟩ = some (.slice aa na ca) := hbox.cell 1
    have hb2 : W1.cell? ⟨w.heap.size, 2, none⟩ = some (.slice ac nc cc) := hbox.cell 2
    go_loop [3] (fun i => ∃ k : Nat, k ≤ na ∧ i = .int .i64 k ∧ ((args.take k).all fun k => fit k 1) = true) (fun i => na - (intOf i).toNat)
    case atStart => exact ⟨0, Nat.zero_le _, rfl, all_zero⟩
    case round =>
      obtain ⟨k, hk, rfl, hall⟩ := hrel
      have HA := hide hall
      clear hall
      by_cases hlt : k < na
      · obtain ⟨b, o, rfl, hcell⟩ := (ha.ext hx).2 k hlt
        have HK : Hid (k < args.length) := by show _ < _; rw [HLA.out]; exact hlt
        generalize hxx : args.getD k 0 = x at hcell
        have HX := hide hxx
        clear hxx
        cases hfx : fit x 1 with
        | true =>
          have HN : Hid (((args.take (k + 1)).all fun k => fit k 1) = true) := all_succ (d := 0) HA.out HK.out (by rw [HX.out]; exact hfx)
          go_wp2_with (go_at_call 41; refine (fits_any _ _ _).mono ?_; rintro e w' ⟨rfl, rfl⟩)
          go_round
          case rel => exact ⟨k + 1, by omega, by go_num, HN.out⟩
          case measure => simp [intOf]; omega
        | false =>
          have HN : Hid ((args.all fun k => fit k 1) = false) := all_no (d := 0) HK.out (by rw [HX.out]; exact hfx)
          have HP : Hid (okPhr ⟨nm, args, code⟩ = false) := by show _ = _; rw [HO.out, HN.out]; rfl
          go_wp2_with (go_at_call 41; refine (fits_any _ _ _).mono ?_; rintro e w' ⟨rfl, rfl⟩)
          go_ret
          exact ⟨ret_bool HP.out.symm, hx⟩
      · have hkn : k = na := by omega
        subst hkn
        have HN : Hid (okPhr ⟨nm, args, code⟩ = code.all okIns) := by show _ = _; rw [HO.out, all_full HA.out HLA.out]; rfl
        clear HA HO
        go_wp2
        go_loop [5] (fun i => ∃ k : Nat, k ≤ nc ∧ i = .int .i64 k ∧ (code.take k).all okIns = true) (fun i => nc - (intOf i).toNat)
        case atStart => exact ⟨0, Nat.zero_le _, rfl, all_zero⟩
        case round =>
          obtain ⟨j, hj, rfl, hall⟩ := hrel
          have HA := hide hall
          clear hall
          by_cases hlj : j < nc
          · obtain ⟨b, o, rfl, hc0, hc1, hc2⟩ := (hc.ext hx).2 j hlj
            have HK : Hid (j < code.length) := by show _ < _; rw [HLC.out]; exact hlj
            generalize hxx : code.getD j (0, 0, 0) = x at hc0 hc1 hc2
            have HX := hide hxx
            clear hxx
            cases hfx : okIns x with
            | true =>
              have HQ : Hid ((code.take (j + 1)).all okIns = true) := all_succ (d := (0, 0, 0)) HA.out HK.out (by rw [HX.out]; exact hfx)
              obtain ⟨q0, q1, q2⟩ := okIns_yes hfx
              obtain ⟨x0, x1, x2⟩ := x
              clear hfx
              go_wp2_with (go_at_call 41; refine (fits_any _ _ _).mono ?_; rintro e w' ⟨rfl, rfl⟩)
              go_round
              case rel => exact ⟨j + 1, by omega, by go_num, HQ.out⟩
              case measure => simp [intOf]; omega
            | false =>
              have HQ : Hid (code.all okIns = false) := all_no (d := (0, 0, 0)) HK.out (by rw [HX.out]; exact hfx)
              have hno := okIns_no hfx
              obtain ⟨x0, x1, x2⟩ := x
              clear hfx
              rcases hno with q0 | ⟨q0, q1⟩ | ⟨q0, q1, q2⟩
              all_goals
                simp only at q0
                go_wp2_with (go_at_call 41; refine (fits_any _ _ _).mono ?_; rintro e w' ⟨rfl, rfl⟩)
                go_ret
                exact ⟨ret_bool (HN.out.trans HQ.out).symm, hx⟩
          · have hkn : j = nc := by omega
            subst hkn
            have HQ : Hid (code.all okIns = true) := all_full HA.out HLC.out
            go_wp2
            go_ret
            exact ⟨ret_bool (HN.out.trans HQ.out).symm, hx⟩

end Go.Proofs.YtkhenmpdlnhgjaaDoor
