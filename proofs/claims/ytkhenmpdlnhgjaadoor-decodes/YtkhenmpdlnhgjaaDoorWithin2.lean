import Derived.Test.YtkhenmpdlnhgjaaDoorWithin
namespace Go.Proofs.YtkhenmpdlnhgjaaDoor
open Go.RowKit

set_option maxHeartbeats 400000 in
theorem phraseWithin_any (aa ac : Option Addr) (ca cc : Nat) (f : Phr) (w : World) (ha : IntsAt w aa f.args.length f.args) (hc : CodeAt w ac f.code.length f.code) (hla : f.args.length ≤ 17592186044416) (hlc : f.code.length ≤ 5864062014805)
    (hnm : f.name.size ≤ 140737488355328) :
    Calls Tryd.prog 32 #[.agg #[.string f.name, .slice aa f.args.length ca, .slice ac f.code.length cc]] w fun e w' => e = .returned (.bool (okPhr f)) ∧ Ext w w' := by
  obtain ⟨nm, args, code⟩ := f
  simp only at ha hc hla hlc hnm ⊢
  have hx := (Ext.refl w).alloc (.cells #[.string nm, .slice aa args.length ca, .slice ac code.length cc] 41)
  by_cases h1 : 1 ≤ nm.size
  · by_cases h12 : nm.size ≤ 12
    · have hi1 : (1 : Int) ≤ nm.size := by omega
      have hi2 : (nm.size : Int) ≤ 12 := by omega
      have HO : Hid (okPhr ⟨nm, args, code⟩ = (okArgs args && okCode code)) := by show _ = _; unfold okPhr; rw [decide_eq_true h1, decide_eq_true h12]; rfl
      cases hoa : okArgs args with
      | true =>
        have HP : Hid (okPhr ⟨nm, args, code⟩ = okCode code) := by show _ = _; rw [HO.out, hoa]; rfl
        go_enter Tryd.func32, Tryd.ntmps32
        go_wp2_with fail
        refine (argsWithin_any _ _ _ _ _ (ha.ext hx) hla).mono ?_
        rintro e w1 ⟨rfl, rfl⟩
        rw [hoa]
        go_wp2_with fail
        refine (codeWithin_any _ _ _ _ _ (hc.ext hx) hlc).mono ?_
        rintro e w1 ⟨rfl, he1⟩
        go_wp2
        go_ret
        exact ⟨ret_bool HP.out.symm, hx.trans he1⟩
      | false =>
        have HP : Hid (okPhr ⟨nm, args, code⟩ = false) := by show _ = _; rw [HO.out, hoa]; rfl
        go_enter Tryd.func32, Tryd.ntmps32
        go_wp2_with fail
        refine (argsWithin_any _ _ _ _ _ (ha.ext hx) hla).mono ?_
        rintro e w1 ⟨rfl, rfl⟩
        rw [hoa]
        go_wp2_with fail
        go_ret
        exact ⟨ret_bool HP.out.symm, hx⟩
    · have HO : Hid (okPhr ⟨nm, args, code⟩ = false) := by show _ = _; unfold okPhr; rw [decide_eq_true h1, decide_eq_false h12]; rfl
      have hi1 : (1 : Int) ≤ nm.size := by omega
      have hi2 : decide ((nm.size : Int) ≤ 12) = false := decide_eq_false (by omega)
      go_enter Tryd.func32, Tryd.ntmps32
      go_wp2_with fail
      go_ret
      exact ⟨ret_bool HO.out.symm, hx⟩
  · have HO : Hid (okPhr ⟨nm, args, code⟩ = false) := by show _ = _; unfold okPhr; rw [decide_eq_false h1]; rfl
    have hi1 : decide ((1 : Int) ≤ nm.size) = false := decide_eq_false (by omega)
    go_enter Tryd.func32, Tryd.ntmps32
    go_wp2_with fail
    go_ret
    exact ⟨ret_bool HO.out.symm, hx⟩

set_option maxHeartbeats 400000 in
theorem hasName_any (a : Option Addr) (n ca : Nat) (ps : List Phr) (nm : ByteArray) (w : World) (ha : PhrasesAt w a n ps) (hn : n ≤ 2199023255552) :
    Calls Tryd.prog 33 #[.slice a n ca, .string nm] w fun e w' => e = .returned (.bool (hasN ps nm)) ∧ Ext w w' := by
  have HL : Hid (ps.length = n) := ha.1
  go_enter Tryd.func33, Tryd.ntmps33
  go_wp2
  go_loopw [9] (fun i wr => ∃ k : Nat, k ≤ n ∧ i = .int .i64 k ∧ ((ps.take k).any fun f => decide (f.name = nm)) = false ∧ Ext w wr) (fun i _ => n - (intOf i).toNat)
  case atStart => exact ⟨0, Nat.zero_le _, rfl, any_zero, Ext.refl w⟩
  case round =>
    obtain ⟨k, hk, rfl, hall, hext⟩ := hrel
    have HA : Hid (((ps.take k).any fun f => decide (f.name = nm)) = false) := hall
    clear hall
    by_cases hlt : k < n
    · obtain ⟨b, o, rfl, hph⟩ := (ha.ext hext).2 k hlt
      obtain ⟨aa, ca', ac, cc, hc0, hc1, hc2, _⟩ := hph
      have HK : Hid (k < ps.length) := by show _ < _; rw [HL.out]; exact hlt
      generalize hf : ps.getD k noPhr = f at hc0 hc1 hc2
      have HX : Hid (ps.getD k noPhr = f) := hf
      clear hf
      by_cases hnm : f.name = nm
      · have HN : Hid (hasN ps nm = true) := any_yes (d := noPhr) HK.out (by rw [HX.out]; exact decide_eq_true hnm)
        rw [hnm] at hc0
        clear hnm
        go_wp2
        go_ret
        exact ⟨ret_bool HN.out.symm, hext.alloc _⟩
      · have HN : Hid (((ps.take (k + 1)).any fun f => decide (f.name = nm)) = false) := any_succ (d := noPhr) HA.out HK.out (by rw [HX.out]; exact decide_eq_false hnm)
        have hne : (f.name.toList == nm.toList) = false := by simp [toList_inj, hnm]
        clear hnm
        go_wp2
        go_roundw
        case rel => exact ⟨k + 1, by omega, by go_num, HN.out, hext.alloc _⟩
        case measure => simp [intOf]; omega
    · have hkn : k = n := by omega
      subst hkn
      have HN : Hid (hasN ps nm = false) := any_full HA.out HL.out
      go_wp2
      go_ret
      exact ⟨ret_bool HN.out.symm, hext⟩

end Go.Proofs.YtkhenmpdlnhgjaaDoor
