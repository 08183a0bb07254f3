import Derived.Test.YtkhenmpdlnhgjaaDoorRefWithin
namespace Go.Proofs.YtkhenmpdlnhgjaaDoor
open Go.RowKit

theorem hasN_take {ps : List Phr} {k : Nat} {nm : ByteArray} : hasN (ps.take k) nm = ((ps.take k).any fun f => decide (f.name = nm)) := rfl

set_option maxHeartbeats 1000000 in
theorem refWithin_any (sa ap : Option Addr) (ns np cs cp : Nat) (P : Pk) (w : World) (hs : StrsAt w sa ns P.strings) (hp : PhrasesAt w ap np P.phrases) (hns : ns ≤ 8796093022208) (hnp : np ≤ 2199023255552)
    (hsz : ∀ s ∈ P.strings, s.size ≤ 140737488355328) :
    Calls Tryd.prog 13 #[.agg #[.slice sa ns cs, .slice ap np cp]] w fun e w' => e = .returned (.bool (okPack P)) ∧ Ext w w' := by
  have hls := hs.1
  have hlp := hp.1
  have hx := (Ext.refl w).alloc (.cells #[.slice sa ns cs, .slice ap np cp] 27)
  by_cases h40 : ns ≤ 40
  · by_cases h12 : np ≤ 12
    · have HO : Hid (okPack P = (P.strings.all okStr && okTo P.phrases np)) := by show _ = _; unfold okPack; rw [hls, hlp, decide_eq_true h40, decide_eq_true h12]; rfl
      have HLS : Hid (P.strings.length = ns) := hls
      have HLP : Hid (P.phrases.length = np) := hlp
      have hi1 : ¬ (40 : Int) < ns := by omega
      have hi2 : ¬ (12 : Int) < np := by omega
      clear hls hlp
      go_enter Tryd.func13, Tryd.ntmps13
      go_wp2
      obtain ⟨W1, HW⟩ : ∃ W1, Hid (W1 = w.alloc (.cells #[.slice sa ns cs, .slice ap np cp] 27)) := ⟨_, rfl⟩
      have hx1 : Ext w W1 := by rw [HW.out]; exact hx
      have hbox : OwnRow W1 w.heap.size [.slice sa ns cs, .slice ap np cp] 27 := by rw [HW.out]; exact OwnRow.alloc w [.slice sa ns cs, .slice ap np cp] 27
      rw [← HW.out]
      clear HW hx
      have hs1 := hs.ext hx1
      have hb0 : W1.cell? ⟨w.heap.size, 0, none⟩ = some (.slice sa ns cs) := hbox.cell 0
      go_loop [3] (fun i => ∃ k : Nat, k ≤ ns ∧ i = .int .i64 k ∧ (P.strings.take k).all okStr = true) (fun i => ns - (intOf i).toNat)
      case atStart => exact ⟨0, Nat.zero_le _, rfl, all_zero⟩
      case round =>
        obtain ⟨k, hk, rfl, hall⟩ := hrel
        have HA : Hid ((P.strings.take k).all okStr = true) := hall
        clear hall
        by_cases hlt : k < ns
        · obtain ⟨b, o, rfl, hc⟩ := hs1.2 k hlt
          have HK : Hid (k < P.strings.length) := by show _ < _; rw [HLS.out]; exact hlt
          have hsk : (P.strings.getD k ByteArray.empty).size ≤ 140737488355328 := hsz _ (by have := HK.out; simp [List.getD, this])
          generalize hx : P.strings.getD k ByteArray.empty = x at hc hsk
          have HX : Hid (P.strings.getD k ByteArray.empty = x) := hx
          clear hx
          by_cases h60 : x.size ≤ 60
          · have HN : Hid ((P.strings.take (k + 1)).all okStr = true) := all_succ (d := ByteArray.empty) HA.out HK.out (by rw [HX.out]; exact decide_eq_true h60)
            have hi : ¬ (60 : Int) < x.size := by omega
            go_wp2
            go_round
            case rel => exact ⟨k + 1, by omega, by go_num, HN.out⟩
            case measure => simp [intOf]; omega
          · have HN : Hid (P.strings.all okStr = false) := all_no (d := ByteArray.empty) HK.out (by rw [HX.out]; exact decide_eq_false h60)
            have HP : Hid (okPack P = false) := by show _ = _; rw [HO.out, HN.out]; rfl
            have hi : (60 : Int) < x.size := by omega
            go_wp2
            go_ret
            exact ⟨ret_bool HP.out.symm, hx1⟩
        · have hkn : k = ns := by omega
          subst hkn
          have HN : Hid (okPack P = okTo P.phrases np) := by show _ = _; rw [HO.out, all_full HA.out HLS.out]; rfl
          clear HA HO hi1 h40
          go_wp2
          go_loopw [4] (fun i wr => ∃ k : Nat, k ≤ np ∧ i = .int .i64 k ∧ okTo P.phrases k = true ∧ Ext W1 wr) (fun i _ => np - (intOf i).toNat)
          case atStart => exact ⟨0, Nat.zero_le _, rfl, rfl, Ext.refl W1⟩
          case round =>
            obtain ⟨j, hj, rfl, hall, hext⟩ := hrel
            have HA : Hid (okTo P.phrases j = true) := hall
            clear hall
            have hb1 : wr.cell? ⟨w.heap.size, 1, none⟩ = some (.slice ap np cp) := (hbox.ext hext).cell 1
            by_cases hjl : j < np
            · have hpw := (hp.ext hx1).ext hext
              obtain ⟨b, o, rfl, hph⟩ := hpw.2 j hjl
              obtain ⟨aa, ca, ac, cc, hc0, hc1, hc2, hia, hca, hla, hlc, hnm⟩ := hph
              generalize hf : P.phrases.getD j noPhr = f at hc0 hc1 hc2 hia hca hla hlc hnm
              have HF : Hid (P.phrases.getD j noPhr = f) := hf
              clear hf
              go_wp2_with fail
              refine (refwithin_any aa ac ca cc f wr hia hca hla hlc hnm).mono ?_
              rintro e w1 ⟨rfl, he1⟩
              cases hof : okPhr f with
              | false =>
                have HP : Hid (okPack P = false) := by
                  show _ = _
                  rw [HN.out]
                  exact okTo_false hjl (by rw [HF.out, hof]; rfl)
                go_wp2
                go_ret
                exact ⟨ret_bool HP.out.symm, (hx1.trans hext).trans he1⟩
              | true =>
                have HOF := hide hof
                have hpw1 := hpw.ext he1
                have hbx1 := (hbox.ext hext).ext he1
                have hd0 := he1.cell hc0
                clear hof hc0 hc1 hc2 hia hca hla hlc hpw hb1 hb0 hs1 hs hp
                go_wp2
                go_loopw [6] (fun i wr => ∃ k : Nat, k ≤ j ∧ i = .int .i64 k ∧ ((P.phrases.take k).any fun g => decide (g.name = f.name)) = false ∧ Ext w1 wr) (fun i _ => j - (intOf i).toNat)
                case atStart => exact ⟨0, Nat.zero_le _, rfl, any_zero, Ext.refl w1⟩
                case round =>
                  obtain ⟨i, hi, rfl, hany, hexi⟩ := hrel
                  have HY := hide hany
                  clear hany
                  by_cases hij : i < j
                  · obtain ⟨b', o', heq, hph⟩ := (hpw1.ext hexi).2 i (by omega)
                    cases heq
                    obtain ⟨aa', ca', ac', cc', hc0, _⟩ := hph
                    have HK : Hid (i < P.phrases.length) := by show _ < _; rw [HLP.out]; omega
                    generalize hg : P.phrases.getD i noPhr = g at hc0
                    have HG := hide hg
                    clear hg
                    have hb1 : wr.cell? ⟨w.heap.size, 1, none⟩ = some (.slice (some ⟨b, o, none⟩) np cp) := (hbx1.ext hexi).cell 1
                    have hd1 := hexi.cell hd0
                    by_cases hn : g.name = f.name
                    · have HP : Hid (okPack P = false) := by
                        show _ = _
                        rw [HN.out]
                        refine okTo_false hjl ?_
                        rw [HF.out, HOF.out, hasN_take, any_yes (d := noPhr) (k := i) (by rw [List.length_take]; have := HK.out; omega) (by
                          have hgi : (P.phrases.take j).getD i noPhr = g := by rw [← HG.out]; simp [List.getD, hij]
                          rw [hgi]; exact decide_eq_true hn)]
                        rfl
                      rw [hn] at hc0
                      clear hn
                      go_wp2
                      go_quiet (fail)
                      go_wp2
                      go_ret
                      exact ⟨ret_bool HP.out.symm, (((hx1.trans hext).trans he1).trans hexi).trans (Ext.drewN _ _)⟩
                    · have HZ : Hid (((P.phrases.take (i + 1)).any fun g => decide (g.name = f.name)) = false) := any_succ (d := noPhr) HY.out HK.out (by rw [HG.out]; exact decide_eq_false hn)
                      have hne : (g.name.toList == f.name.toList) = false := by simp [toList_inj, hn]
                      clear hn
                      go_wp2
                      go_quiet (fail)
                      go_wp2
                      go_roundw
                      case rel => exact ⟨i + 1, by omega, by go_num, HZ.out, hexi.trans (Ext.drewN _ _)⟩
                      case measure => simp [intOf]; omega
                  · have hkn : i = j := by omega
                    subst hkn
                    have HP : Hid (okTo P.phrases (i + 1) = true) := by
                      show _ = _
                      unfold okTo
                      rw [HA.out, HF.out, HOF.out, hasN_take, HY.out]; rfl
                    go_wp2
                    go_roundw
                    case rel => exact ⟨i + 1, by omega, by go_num, HP.out, (hext.trans he1).trans hexi⟩
                    case measure => simp [intOf]; omega
            · have hkn : j = np := by omega
              subst hkn
              go_wp2
              go_ret
              exact ⟨ret_bool (HN.out.trans HA.out).symm, hx1.trans hext⟩
    · have HO : Hid (okPack P = false) := by show _ = _; unfold okPack; rw [hls, hlp, decide_eq_true h40, decide_eq_false h12]; rfl
      have hi1 : ¬ (40 : Int) < ns := by omega
      have hi2 : (12 : Int) < np := by omega
      clear hls hlp
      go_enter Tryd.func13, Tryd.ntmps13
      go_wp2
      go_ret
      exact ⟨ret_bool HO.out.symm, hx⟩
  · have HO : Hid (okPack P = false) := by show _ = _; unfold okPack; rw [hls, decide_eq_false h40]; rfl
    have hi1 : (40 : Int) < ns := by omega
    clear hls hlp
    go_enter Tryd.func13, Tryd.ntmps13
    go_wp2
    go_ret
    exact ⟨ret_bool HO.out.symm, hx⟩

end Go.Proofs.YtkhenmpdlnhgjaaDoor
