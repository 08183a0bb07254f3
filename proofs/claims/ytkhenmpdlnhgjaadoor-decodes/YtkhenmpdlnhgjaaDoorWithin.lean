import Derived.Test.YtkhenmpdlnhgjaaDoorSpec
namespace Go.Proofs.YtkhenmpdlnhgjaaDoor
open Go.RowKit

theorem fit_of {n m : Int} (h : 0 ≤ n) : fit n m = decide (n ≤ m) := by simp [fit, h]
theorem fit_neg {n m : Int} (h : ¬ 0 ≤ n) : fit n m = false := by unfold fit; rw [decide_eq_false h]; rfl
set_option maxHeartbeats 400000 in
theorem fits_any (n m : Int) (w : World) :
    Calls Tryd.prog 41 #[.int .i64 n, .int .i64 m] w fun e w' => e = .returned (.bool (fit n m)) ∧ w' = w := by
  by_cases h : 0 ≤ n
  · have HF : Hid (fit n m = decide (n ≤ m)) := fit_of h
    go_enter Tryd.func41, Tryd.ntmps41
    go_wp2
    go_ret
    exact ⟨ret_bool HF.out.symm, rfl⟩
  · have HF : Hid (fit n m = false) := fit_neg h
    have h' : decide (0 ≤ n) = false := decide_eq_false h
    go_enter Tryd.func41, Tryd.ntmps41
    go_wp2
    go_ret
    exact ⟨ret_bool HF.out.symm, rfl⟩
set_option maxHeartbeats 400000 in
theorem between_any (n m : Int) (w : World) :
    Calls Tryd.prog 55 #[.int .i64 n, .int .i64 m] w fun e w' => e = .returned (.bool (fit n m)) ∧ w' = w := by
  by_cases h : 0 ≤ n
  · have HF : Hid (fit n m = decide (n ≤ m)) := fit_of h
    go_enter Tryd.func55, Tryd.ntmps55
    go_wp2
    go_ret
    exact ⟨ret_bool HF.out.symm, rfl⟩
  · have HF : Hid (fit n m = false) := fit_neg h
    have h' : decide (0 ≤ n) = false := decide_eq_false h
    go_enter Tryd.func55, Tryd.ntmps55
    go_wp2
    go_ret
    exact ⟨ret_bool HF.out.symm, rfl⟩

theorem fit1 {x : Int} : fit x 1 = true ↔ x = 0 ∨ x = 1 := by simp [fit]; omega
theorem fit1_no {x : Int} (h : fit x 1 = false) : (x != 0) = true ∧ (x != 1) = true := by
  have : ¬ fit x 1 = true := by rw [h]; simp
  rw [fit1] at this
  simp only [bne_iff_ne]; omega

set_option maxHeartbeats 400000 in
theorem argsWithin_any (a : Option Addr) (n ca : Nat) (xs : List Int) (w : World) (ha : IntsAt w a n xs) (hn : n ≤ 17592186044416) :
    Calls Tryd.prog 42 #[.slice a n ca] w fun e w' => e = .returned (.bool (okArgs xs)) ∧ w' = w := by
  have hl := ha.1
  by_cases h6 : n ≤ 6
  · have HO : Hid (okArgs xs = xs.all fun k => fit k 1) := by show _ = _; unfold okArgs; rw [hl, decide_eq_true h6]; rfl
    have HL : Hid (xs.length = n) := hl
    clear hl
    go_enter Tryd.func42, Tryd.ntmps42
    go_wp2
    go_loop [10] (fun i => ∃ k : Nat, k ≤ n ∧ i = .int .i64 k ∧ ((xs.take k).all fun k => fit k 1) = true) (fun i => n - (intOf i).toNat)
    case atStart => exact ⟨0, Nat.zero_le _, rfl, all_zero⟩
    case round =>
      obtain ⟨k, hk, rfl, hall⟩ := hrel
      have HA : Hid (((xs.take k).all fun k => fit k 1) = true) := hall
      clear hall
      by_cases hlt : k < n
      · obtain ⟨b, o, rfl, hc⟩ := ha.2 k hlt
        have HK : Hid (k < xs.length) := by show _ < _; rw [HL.out]; exact hlt
        generalize hx : xs.getD k 0 = x at hc
        have HX : Hid (xs.getD k 0 = x) := hx
        clear hx
        cases hfx : fit x 1 with
        | true =>
          have HN : Hid (((xs.take (k + 1)).all fun k => fit k 1) = true) := all_succ (d := 0) HA.out HK.out (by rw [HX.out]; exact hfx)
          rw [fit1] at hfx
          rcases hfx with rfl | rfl
          all_goals
            go_wp2
            go_round
            case rel => exact ⟨k + 1, by omega, by go_num, HN.out⟩
            case measure => simp [intOf]; omega
        | false =>
          have HN : Hid ((xs.all fun k => fit k 1) = false) := all_no (d := 0) HK.out (by rw [HX.out]; exact hfx)
          obtain ⟨h0, h1⟩ := fit1_no hfx
          clear hfx
          go_wp2
          go_ret
          exact ⟨ret_bool (HO.out.trans HN.out).symm, rfl⟩
      · have hkn : k = n := by omega
        subst hkn
        have HN : Hid ((xs.all fun k => fit k 1) = true) := all_full HA.out HL.out
        go_wp2
        go_ret
        exact ⟨ret_bool (HO.out.trans HN.out).symm, rfl⟩
  · have HO : Hid (okArgs xs = false) := by show _ = _; unfold okArgs; rw [hl, decide_eq_false h6]; rfl
    have h6' : (6 : Int) < n := by omega
    clear hl
    go_enter Tryd.func42, Tryd.ntmps42
    go_wp2
    go_ret
    exact ⟨ret_bool HO.out.symm, rfl⟩

/-- Which of an instruction's three numbers does not fit. -/
theorem okIns_no {x : Ins} (h : okIns x = false) : fit x.1 255 = false ∨ (fit x.1 255 = true ∧ fit x.2.1 2147483647 = false) ∨ (fit x.1 255 = true ∧ fit x.2.1 2147483647 = true ∧ fit x.2.2 2147483647 = false) := by
  unfold okIns at h
  cases h0 : fit x.1 255 <;> cases h1 : fit x.2.1 2147483647 <;> cases h2 : fit x.2.2 2147483647 <;> simp_all
theorem okIns_yes {x : Ins} (h : okIns x = true) : fit x.1 255 = true ∧ fit x.2.1 2147483647 = true ∧ fit x.2.2 2147483647 = true := by
  unfold okIns at h
  simpa using h

set_option maxHeartbeats 400000 in
theorem codeWithin_any (a : Option Addr) (n ca : Nat) (xs : List Ins) (w : World) (ha : CodeAt w a n xs) (hn : n ≤ 5864062014805) :
    Calls Tryd.prog 43 #[.slice a n ca] w fun e w' => e = .returned (.bool (okCode xs)) ∧ Ext w w' := by
  have hl := ha.1
  by_cases h1 : 1 ≤ n
  · by_cases h6 : n ≤ 60
    · have HO : Hid (okCode xs = xs.all okIns) := by show _ = _; unfold okCode; rw [hl, decide_eq_true h6, decide_eq_true h1]; rfl
      have HL : Hid (xs.length = n) := hl
      have h1' : ¬ (n : Int) < 1 := by omega
      clear hl
      go_enter Tryd.func43, Tryd.ntmps43
      go_wp2
      go_loopw [15] (fun i wr => ∃ k : Nat, k ≤ n ∧ i = .int .i64 k ∧ ((xs.take k).all okIns) = true ∧ Ext w wr) (fun i _ => n - (intOf i).toNat)
      case atStart => exact ⟨0, Nat.zero_le _, rfl, all_zero, Ext.refl w⟩
      case round =>
        obtain ⟨k, hk, rfl, hall, hext⟩ := hrel
        have HA : Hid (((xs.take k).all okIns) = true) := hall
        clear hall
        by_cases hlt : k < n
        · obtain ⟨b, o, rfl, hc0, hc1, hc2⟩ := (ha.ext hext).2 k hlt
          have HK : Hid (k < xs.length) := by show _ < _; rw [HL.out]; exact hlt
          generalize hx : xs.getD k (0, 0, 0) = x at hc0 hc1 hc2
          have HX : Hid (xs.getD k (0, 0, 0) = x) := hx
          clear hx
          cases hfx : okIns x with
          | true =>
            have HN : Hid (((xs.take (k + 1)).all okIns) = true) := all_succ (d := (0, 0, 0)) HA.out HK.out (by rw [HX.out]; exact hfx)
            obtain ⟨g0, g1, g2⟩ := okIns_yes hfx
            obtain ⟨x0, x1, x2⟩ := x
            clear hfx
            go_wp2_with (go_at_call 55; refine (between_any _ _ _).mono ?_; rintro e w' ⟨rfl, rfl⟩)
            go_roundw
            case rel => exact ⟨k + 1, by omega, by go_num, HN.out, hext.alloc _⟩
            case measure => simp [intOf]; omega
          | false =>
            have HN : Hid ((xs.all okIns) = false) := all_no (d := (0, 0, 0)) HK.out (by rw [HX.out]; exact hfx)
            have hno := okIns_no hfx
            obtain ⟨x0, x1, x2⟩ := x
            clear hfx
            rcases hno with g0 | ⟨g0, g1⟩ | ⟨g0, g1, g2⟩
            all_goals
              simp only at g0
              go_wp2_with (go_at_call 55; refine (between_any _ _ _).mono ?_; rintro e w' ⟨rfl, rfl⟩)
              go_ret
              exact ⟨ret_bool (HO.out.trans HN.out).symm, hext.alloc _⟩
        · have hkn : k = n := by omega
          subst hkn
          have HN : Hid ((xs.all okIns) = true) := all_full HA.out HL.out
          go_wp2
          go_ret
          exact ⟨ret_bool (HO.out.trans HN.out).symm, hext⟩
    · have HO : Hid (okCode xs = false) := by show _ = _; unfold okCode; rw [hl, decide_eq_false h6, decide_eq_true h1]; rfl
      have h6' : (60 : Int) < n := by omega
      have h1' : ¬ (n : Int) < 1 := by omega
      clear hl
      go_enter Tryd.func43, Tryd.ntmps43
      go_wp2
      go_ret
      exact ⟨ret_bool HO.out.symm, Ext.refl w⟩
  · have HO : Hid (okCode xs = false) := by show _ = _; unfold okCode; rw [hl, decide_eq_false h1]; rfl
    have h1' : (n : Int) < 1 := by omega
    clear hl
    go_enter Tryd.func43, Tryd.ntmps43
    go_wp2
    go_ret
    exact ⟨ret_bool HO.out.symm, Ext.refl w⟩

end Go.Proofs.YtkhenmpdlnhgjaaDoor
