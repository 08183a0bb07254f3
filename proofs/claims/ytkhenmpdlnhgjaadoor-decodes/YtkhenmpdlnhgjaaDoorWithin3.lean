import Derived.Test.YtkhenmpdlnhgjaaDoorWithin2
namespace Go.Proofs.YtkhenmpdlnhgjaaDoor
open Go.RowKit

theorem PhrasesAt.take {w : World} {a : Option Addr} {n : Nat} {ps : List Phr} (h : PhrasesAt w a n ps) {k : Nat} (hk : k ≤ n) : PhrasesAt w a k (ps.take k) := by
  have hl := h.1
  refine ⟨by simp; omega, fun i hi => ?_⟩
  obtain ⟨b, o, h1, h2⟩ := h.2 i (by omega)
  refine ⟨b, o, h1, ?_⟩
  have hg : (ps.take k).getD i noPhr = ps.getD i noPhr := by simp [List.getD, hi]
  rw [hg]; exact h2

set_option maxHeartbeats 1000000 in
theorem wireWithin_any (sa ap : Option Addr) (ns np cs cp : Nat) (P : Pk) (w : World) (hs : StrsAt w sa ns P.strings) (hp : PhrasesAt w ap np P.phrases) (hns : ns ≤ 8796093022208) (hnp : np ≤ 2199023255552) (hcp : np ≤ cp)
    (hsz : ∀ s ∈ P.strings, s.size ≤ 140737488355328) :
    Calls Tryd.prog 18 #[.agg #[.slice sa ns cs, .slice ap np cp]] w fun e w' => e = .returned (.bool (okPack P)) ∧ Ext w w' := by
  have hls := hs.1
  have hlp := hp.1
  have hx := (Ext.refl w).alloc (.cells #[.slice sa ns cs, .slice ap np cp] 27)
  by_cases h40 : ns ≤ 40
  · by_cases h12 : np ≤ 12
    · have HO : Hid (okPack P = (P.strings.all okStr && okTo P.phrases np)) := by show _ = _; unfold okPack; rw [hls, hlp, decide_eq_true h40, decide_eq_true h12]; rfl
      have HLS : Hid (P.strings.length = ns) := hls
      have HLP : Hid (P.phrases.length = np) := hlp
      have hi1 : ¬ (40 : Int) < ns := by omega
      have hi2 : ¬ (12 : Int) < np := by omega
      clear hls hlp
      go_enter Tryd.func18, Tryd.ntmps18
      go_wp2
      obtain ⟨W1, HW⟩ : ∃ W1, Hid (W1 = w.alloc (.cells #[.slice sa ns cs, .slice ap np cp] 27)) := ⟨_, rfl⟩
      have hx1 : Ext w W1 := by rw [HW.out]; exact hx
      have hbox : OwnRow W1 w.heap.size [.slice sa ns cs, .slice ap np cp] 27 := by rw [HW.out]; exact OwnRow.alloc w [.slice sa ns cs, .slice ap np cp] 27
      rw [← HW.out]
      clear HW hx
      have hs1 := hs.ext hx1
      have hb1 : W1.cell? ⟨w.heap.size, 1, none⟩ = some (.slice ap np cp) := hbox.cell 1
      go_loop [20] (fun i => ∃ k : Nat, k ≤ ns ∧ i = .int .i64 k ∧ (P.strings.take k).all okStr = true) (fun i => ns - (intOf i).toNat)
      case atStart => exact ⟨0, Nat.zero_le _, rfl, all_zero⟩
      case round =>
        obtain ⟨k, hk, rfl, hall⟩ := hrel
        have HA : Hid ((P.strings.take k).all okStr = true) := hall
        clear hall
        by_cases hlt : k < ns
        · obtain ⟨b, o, rfl, hc⟩ := hs1.2 k hlt
          have HK : Hid (k < P.strings.length) := by show _ < _; rw [HLS.out]; exact hlt
          have hsk : (P.strings.getD k ByteArray.empty).size ≤ 140737488355328 := hsz _ (by have := HK.out; simp [List.getD, this])
          generalize hx : P.strings.getD k ByteArray.empty = x at hc hsk
          have HX : Hid (P.strings.getD k ByteArray.empty = x) := hx
          clear hx
          by_cases h60 : x.size ≤ 60
          · have HN : Hid ((P.strings.take (k + 1)).all okStr = true) := all_succ (d := ByteArray.empty) HA.out HK.out (by rw [HX.out]; exact decide_eq_true h60)
            have hi : ¬ (60 : Int) < x.size := by omega
            go_wp2
            go_round
            case rel => exact ⟨k + 1, by omega, by go_num, HN.out⟩
            case measure => simp [intOf]; omega
          · have HN : Hid (P.strings.all okStr = false) := all_no (d := ByteArray.empty) HK.out (by rw [HX.out]; exact decide_eq_false h60)
            have HP : Hid (okPack P = false) := by show _ = _; rw [HO.out, HN.out]; rfl
            have hi : (60 : Int) < x.size := by omega
            go_wp2
            go_ret
            exact ⟨ret_bool HP.out.symm, hx1⟩
        · have hkn : k = ns := by omega
          subst hkn
          have HN : Hid (okPack P = okTo P.phrases np) := by show _ = _; rw [HO.out, all_full HA.out HLS.out]; rfl
          clear HA HO hi1 h40
          go_wp2
          go_loopw [31] (fun i wr => ∃ k : Nat, k ≤ np ∧ i = .int .i64 k ∧ okTo P.phrases k = true ∧ Ext W1 wr) (fun i _ => np - (intOf i).toNat)
          case atStart => exact ⟨0, Nat.zero_le _, rfl, rfl, Ext.refl W1⟩
          case round =>
            obtain ⟨j, hj, rfl, hall, hext⟩ := hrel
            have HA : Hid (okTo P.phrases j = true) := hall
            clear hall hb1
            by_cases hjl : j < np
            · obtain ⟨b, o, rfl, hph⟩ := ((hp.ext hx1).ext hext).2 j hjl
              have hpk := ((hp.ext hx1).ext hext).take hj
              obtain ⟨aa, ca, ac, cc, hc0, hc1, hc2, hia, hca, hla, hlc, hnm⟩ := hph
              generalize hf : P.phrases.getD j noPhr = f at hc0 hc1 hc2 hia hca hla hlc hnm
              have HF : Hid (P.phrases.getD j noPhr = f) := hf
              clear hf
              have hb1 : wr.cell? ⟨w.heap.size, 1, none⟩ = some (.slice (some ⟨b, o, none⟩) np cp) := (hbox.ext hext).cell 1
              go_wp2
              obtain ⟨W2, HW2⟩ : ∃ W2, Hid (W2 = wr.alloc (.cells #[.string f.name, .slice aa f.args.length ca, .slice ac f.code.length cc] 41)) := ⟨_, rfl⟩
              have hx2 : Ext wr W2 := by rw [HW2.out]; exact (Ext.refl wr).alloc _
              have hbf : OwnRow W2 wr.heap.size [.string f.name, .slice aa f.args.length ca, .slice ac f.code.length cc] 41 := by rw [HW2.out]; exact OwnRow.alloc wr [.string f.name, .slice aa f.args.length ca, .slice ac f.code.length cc] 41
              rw [← HW2.out]
              clear HW2 hc0 hc1 hc2
              have hq := fun n : ExtW W2 => (hx2.trans n.ext).cell hb1
              have hq0 := fun n : ExtW W2 => (hbf.ext n.ext).cell 0
              have hq1 := fun n : ExtW W2 => (hbf.ext n.ext).cell 1
              have hq2 := fun n : ExtW W2 => (hbf.ext n.ext).cell 2
              simp only [List.getElem?_cons_zero, List.getElem?_cons_succ] at hq0 hq1 hq2
              have hne : Nonempty (ExtW W2) := ⟨⟨W2, Ext.refl W2⟩⟩
              have hj0 : (0 : Int) ≤ (j : Int) := by omega
              have hjc : (j : Int) ≤ (cp : Int) := by omega
              have hcw := fun n : ExtW W2 => calls_ext_of (n := n) (phraseWithin_any aa ac ca cc f n.world ((hia.ext hx2).ext n.ext) ((hca.ext hx2).ext n.ext) hla hlc hnm)
              have hch := fun n : ExtW W2 => calls_ext_of (n := n) (hasName_any (some ⟨b, o, none⟩) j cp (P.phrases.take j) f.name n.world ((hpk.ext hx2).ext n.ext) (by omega))
              have HCW := hide hcw
              have HCH := hide hch
              clear hb1 hbf hcw hch hia hca hpk
              cases hof : okPhr f with
              | true =>
                rw [hof] at HCW
                cases hhn : hasN (P.phrases.take j) f.name with
                | true =>
                  rw [hhn] at HCH
                  have HP : Hid (okPack P = false) := by
                    show _ = _
                    rw [HN.out]
                    exact okTo_false hjl (by rw [HF.out, hof, hhn]; rfl)
                  clear hof hhn
                  refine wp_region_ext_from (wb := W2) (Ext.refl W2) (by kernel_rfl) (by kernel_rfl) ?_
                  repeat (go_big_quiet_step (first | (go_at_call 32; exact unhide HCW _) | (go_at_call 33; exact unhide HCH _)))
                  refine wpQuiet_nil ?_
                  rintro _ ⟨nq, rfl⟩
                  go_wp2
                  go_ret
                  exact ⟨ret_bool HP.out.symm, ((hx1.trans hext).trans hx2).trans nq.ext⟩
                | false =>
                  rw [hhn] at HCH
                  have HP : Hid (okTo P.phrases (j + 1) = true) := by
                    show _ = _
                    unfold okTo
                    rw [HA.out, HF.out, hof, hhn]; rfl
                  clear hof hhn
                  refine wp_region_ext_from (wb := W2) (Ext.refl W2) (by kernel_rfl) (by kernel_rfl) ?_
                  repeat (go_big_quiet_step (first | (go_at_call 32; exact unhide HCW _) | (go_at_call 33; exact unhide HCH _)))
                  refine wpQuiet_nil ?_
                  rintro _ ⟨nq, rfl⟩
                  go_wp2
                  go_roundw
                  case rel => exact ⟨j + 1, by omega, by go_num, HP.out, (hext.trans hx2).trans nq.ext⟩
                  case measure => simp [intOf]; omega
              | false =>
                rw [hof] at HCW
                have HP : Hid (okPack P = false) := by
                  show _ = _
                  rw [HN.out]
                  exact okTo_false hjl (by rw [HF.out, hof]; rfl)
                clear hof
                refine wp_region_ext_from (wb := W2) (Ext.refl W2) (by kernel_rfl) (by kernel_rfl) ?_
                repeat (go_big_quiet_step (first | (go_at_call 32; exact unhide HCW _) | (go_at_call 33; exact unhide HCH _)))
                refine wpQuiet_nil ?_
                rintro _ ⟨nq, rfl⟩
                go_wp2
                go_ret
                exact ⟨ret_bool HP.out.symm, ((hx1.trans hext).trans hx2).trans nq.ext⟩
            · have hkn : j = np := by omega
              subst hkn
              go_wp2
              go_ret
              exact ⟨ret_bool (HN.out.trans HA.out).symm, hx1.trans hext⟩
    · have HO : Hid (okPack P = false) := by show _ = _; unfold okPack; rw [hls, hlp, decide_eq_true h40, decide_eq_false h12]; rfl
      have hi1 : ¬ (40 : Int) < ns := by omega
      have hi2 : (12 : Int) < np := by omega
      clear hls hlp
      go_enter Tryd.func18, Tryd.ntmps18
      go_wp2
      go_ret
      exact ⟨ret_bool HO.out.symm, hx⟩
  · have HO : Hid (okPack P = false) := by show _ = _; unfold okPack; rw [hls, decide_eq_false h40]; rfl
    have hi1 : (40 : Int) < ns := by omega
    clear hls hlp
    go_enter Tryd.func18, Tryd.ntmps18
    go_wp2
    go_ret
    exact ⟨ret_bool HO.out.symm, hx⟩

end Go.Proofs.YtkhenmpdlnhgjaaDoor
