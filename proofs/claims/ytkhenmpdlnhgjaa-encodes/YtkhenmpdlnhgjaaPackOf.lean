import Derived.Test.YtkhenmpdlnhgjaaPhr
namespace Go.Proofs.Ytkhenmpdlnhgjaa
open Go.RowKit


theorem MEntry.under {w : World} {L b : Nat} {v : Trip} {f : Phr} (h : MEntry w L v f) (hb : b < L) (i : Nat) (u : Value) : MEntry (w.setCell ⟨b, i, none⟩ u) L v f := by
  obtain ⟨ba, bc, h1, h2, h3, h4, h5⟩ := h
  exact ⟨ba, bc, h1, h2, h3, h4.other (by omega) _ _, h5.other (by omega) _ _⟩
theorem Entries.under {w : World} {L b : Nat} {vs : List Trip} {ps : List Phr} (h : Entries w L vs ps) (hb : b < L) (i : Nat) (u : Value) : Entries (w.setCell ⟨b, i, none⟩ u) L vs ps := fun j hj => (h j hj).under hb i u
theorem grow_set {vs : List Trip} {n k : Nat} {v : Trip} (hv : vs.length = k) (hk : k < n) : (vs ++ List.replicate (n - k) zero3).set k v = (vs ++ [v]) ++ List.replicate (n - (k + 1)) zero3 := by
  have e : n - k = (n - (k + 1)) + 1 := by omega
  rw [e, List.replicate_succ, List.set_append_right _ _ (by omega)]
  simp [hv]
theorem intsOf_ext (a : Option Addr) (n ca : Nat) (xs : List Int) (w : World) (ha : IntsAt w a n xs) (hn : n ≤ 17592186044416) :
    Calls Try.prog 8 #[.slice a n ca] w fun e w' => e = .returned (.slice (some ⟨w.heap.size, 0, none⟩) n (n + 8)) ∧ Ext w w' ∧ OwnRow w' w.heap.size (ints (xs ++ List.replicate 8 (-77))) 3 :=
  (intsOf_any a n ca xs w ha hn).mono fun _ _ ⟨he, hw⟩ => ⟨he, by rw [hw]; exact (Ext.refl w).alloc _, by rw [hw]; exact OwnRow.alloc w _ _⟩
theorem textsOf_ext (a : Option Addr) (n ca : Nat) (xs : List ByteArray) (w : World) (ha : StrsAt w a n xs) (hn : n ≤ 8796093022208) :
    Calls Try.prog 10 #[.slice a n ca] w fun e w' => e = .returned (.slice (some ⟨w.heap.size, 0, none⟩) n (n + 8)) ∧ Ext w w' ∧ OwnRow w' w.heap.size (strs (xs ++ List.replicate 8 markText)) 9 :=
  (textsOf_any a n ca xs w ha hn).mono fun _ _ ⟨he, hw⟩ => ⟨he, by rw [hw]; exact (Ext.refl w).alloc _, by rw [hw]; exact OwnRow.alloc w _ _⟩

set_option maxHeartbeats 1000000 in
theorem packOf_any (sa ap : Option Addr) (ns np cs cp : Nat) (P : Pk) (w : World) (hs : StrsAt w sa ns P.strings) (hp : PhrasesAt w ap np P.phrases) (hns : ns ≤ 8796093022208) (hnp : np ≤ 2199023255552) :
    Calls Try.prog 4 #[.agg #[.slice sa ns cs, .slice ap np cp]] w fun e w' => ∃ bs bp vs, e = .returned (.agg #[.slice (some ⟨bs, 0, none⟩) ns (ns + 8), .slice (some ⟨bp, 0, none⟩) np (np + 8)]) ∧ Ext w w' ∧
      OwnRow w' bs (strs (P.strings ++ List.replicate 8 markText)) 9 ∧ vs.length = np ∧ OwnRow w' bp (trips (vs ++ List.replicate 8 (.string markText, .slice none 0 0, .slice none 0 0))) 37 ∧ Entries w' bp vs P.phrases := by
  have hmk := fun w => make_phrases np hnp w
  go_enter Try.func4, Try.ntmps4
  go_wp2
  obtain ⟨W1, HW⟩ : ∃ W1, Hid (W1 = (w.alloc (.cells #[.slice sa ns cs, .slice ap np cp] 25)).alloc (.cells #[.slice none 0 0, .slice none 0 0] 25)) := ⟨_, rfl⟩
  have hL : W1.heap.size = w.heap.size + 1 + 1 := by rw [HW.out]; simp
  have hx1 : Ext w W1 := by rw [HW.out]; exact ((Ext.refl w).alloc _).alloc _
  have hbox : OwnRow W1 w.heap.size [.slice sa ns cs, .slice ap np cp] 25 := by
    rw [HW.out]
    exact OwnRow.ext (OwnRow.alloc w [.slice sa ns cs, .slice ap np cp] 25) ((Ext.refl _).alloc _)
  have hres : OwnRow W1 (w.heap.size + 1) [.slice none 0 0, .slice none 0 0] 25 := by
    rw [HW.out]
    have := OwnRow.alloc (w.alloc (.cells #[.slice sa ns cs, .slice ap np cp] 25)) [.slice none 0 0, .slice none 0 0] 25
    simpa using this
  have HL : Hid (W1.heap.size = w.heap.size + 1 + 1) := hL
  clear hL
  go_loopw [5] (fun i wr => ∃ (k : Nat) (vs : List Trip), k ≤ np ∧ i = .int .i64 k ∧ vs.length = k ∧ Ext W1 wr ∧ OwnRow wr (w.heap.size + 1 + 1) (trips (vs ++ List.replicate (np + 8 - k) zero3)) 37 ∧ Entries wr (w.heap.size + 1 + 1) vs P.phrases) (fun i _ => np - (intOf i).toNat)
  case atStart =>
    refine ⟨0, [], Nat.zero_le _, rfl, rfl, by rw [HW.out]; exact (Ext.refl _).alloc _, ?_, fun i hi => absurd hi (Nat.not_lt_zero _)⟩
    have := OwnRow.alloc W1 (trips (List.replicate (np + 8) zero3)) 37
    rw [HL.out, HW.out] at this
    exact this
  case round =>
    obtain ⟨k, vs, hk, rfl, hvl, hext, hown, hent⟩ := hrel
    have HV : Hid (vs.length = k) := hvl
    clear hvl hmk
    by_cases hlt : k < np
    · obtain ⟨bp, op, rfl, haa⟩ := (hp.ext hx1).2 k hlt
      obtain ⟨aa, ca, ac, cc, hc0, hc1, hc2, hia, hca, hla, hlc, _⟩ := haa
      have hq := fun w' (h : Ext W1 w') => (hbox.ext h).cell 1
      have hq0 := fun w' (h : Ext W1 w') => h.cell hc0
      have hq1 := fun w' (h : Ext W1 w') => h.cell hc1
      have hq2 := fun w' (h : Ext W1 w') => h.cell hc2
      simp only [List.getElem?_cons_succ, List.getElem?_cons_zero] at hq
      clear hc0 hc1 hc2
      generalize hf : P.phrases.getD k noPhr = f at hq0 hq1 hq2 hia hca hla hlc
      have HF : Hid (P.phrases.getD k noPhr = f) := hf
      clear hf
      obtain ⟨nm, args, code⟩ := f
      simp only at hq0 hq1 hq2 hia hca hla hlc
      obtain ⟨hd0, hd1, hd2⟩ := trips_get (vs ++ List.replicate (np + 8 - k) zero3) k (by simp [HV.out]; omega)
      have hki : k < np + 8 := by omega
      have hkj : (k : Int) < (np : Int) + 8 := by omega
      go_wp2
      go_region_held3 (fun w' => Ext W1 w') (first | exact Ext.drew hext | assumption | exact (((‹Ext W1 wB›).setCell (Nat.le_of_eq HL.out) _).setCell (Nat.le_of_eq HL.out) _).setCell (Nat.le_of_eq HL.out) _ | exact Ext.trans (by assumption) (by assumption) | fail) (first
        | (go_at_call 8; refine (intsOf_ext _ _ _ _ _ (hia.ext (by assumption)) hla).mono ?_; rintro e wA ⟨rfl, heA, hoA⟩)
        | (go_at_call 9; refine (codeOf_any _ _ _ _ _ (hca.ext (by assumption)) hlc).mono ?_; rintro e wB ⟨rfl, heB, hoB⟩; have hz0 := (((hown.ext ((Ext.refl wr).drew)).ext heA).ext heB).cell (k * 3) |>.trans hd0; have hz1 := (((hown.ext ((Ext.refl wr).drew)).ext heA).ext heB).cell (k * 3 + 1) |>.trans hd1; have hz2 := (((hown.ext ((Ext.refl wr).drew)).ext heA).ext heB).cell (k * 3 + 2) |>.trans hd2; have hy0 := (((hown.ext ((Ext.refl wr).drew)).ext heA).ext heB).frozen (k * 3); have hy1 := (((hown.ext ((Ext.refl wr).drew)).ext heA).ext heB).frozen (k * 3 + 1); have hy2 := (((hown.ext ((Ext.refl wr).drew)).ext heA).ext heB).frozen (k * 3 + 2)))
      clear hz0 hz1 hz2 hy0 hy1 hy2 hd0 hd1 hd2 hq hq0 hq1 hq2
      rename_i hfin
      go_wp2
      go_roundw
      case rel =>
        have hoL : OwnRow wB (w.heap.size + 1 + 1) (trips (vs ++ List.replicate (np + 8 - k) zero3)) 37 := ((hown.ext ((Ext.refl wr).drew)).ext heA).ext heB
        have hlw : w.heap.size + 1 + 1 < wr.heap.size := hown.lt
        have hlA : wr.heap.size ≤ wA.heap.size := heA.size
        refine ⟨k + 1, vs ++ [(.string nm, .slice (some ⟨wr.heap.size, 0, none⟩) args.length (args.length + 8), .slice (some ⟨wA.heap.size, 0, none⟩) code.length (code.length + 8))], by omega, by go_num, by simp [HV.out], hfin, ?_, ?_⟩
        · have := hoL.set3 (k * 3) (.string nm) (.slice (some ⟨wr.heap.size, 0, none⟩) args.length (args.length + 8)) (.slice (some ⟨wA.heap.size, 0, none⟩) code.length (code.length + 8))
          have e := trips_set (vs ++ List.replicate (np + 8 - k) zero3) k (.string nm, .slice (some ⟨wr.heap.size, 0, none⟩) args.length (args.length + 8), .slice (some ⟨wA.heap.size, 0, none⟩) code.length (code.length + 8)) (by simp [HV.out]; omega)
          rw [e, grow_set HV.out (by omega)] at this
          exact this
        · have h3 : Entries wB (w.heap.size + 1 + 1) vs P.phrases := ((hent.ext ((Ext.refl wr).drew)).ext heA).ext heB
          refine Entries.push (((h3.set _ _).set _ _).set _ _) ?_
          rw [HV.out, HF.out]
          exact ⟨wr.heap.size, wA.heap.size, by omega, by omega, rfl, (((hoA.ext heB).other (by simp; omega) _ _).other (by simp; omega) _ _).other (by simp; omega) _ _, ((hoB.other (by omega) _ _).other (by omega) _ _).other (by omega) _ _⟩
      case measure => simp [intOf]; omega
    · have hkn : k = np := by omega
      subst hkn
      have h8 : k + 8 - k = 8 := by omega
      rw [h8] at hown
      clear h8
      go_wp2
      go_loopw [6] (fun i wr => ∃ (j : Nat), j ≤ 8 ∧ i = .int .i64 j ∧ Ext W1 wr ∧ OwnRow wr (w.heap.size + 1 + 1) (trips (marked vs (.string markText, .slice none 0 0, .slice none 0 0) zero3 j)) 37 ∧ Entries wr (w.heap.size + 1 + 1) vs P.phrases) (fun i _ => 8 - (intOf i).toNat)
      case atStart => exact ⟨0, Nat.zero_le _, rfl, hext, by simpa [marked] using hown, hent⟩
      case round =>
        clear hext hown hent
        obtain ⟨j, hj, rfl, hext, hown, hent⟩ := hrel
        by_cases hlt : j < 8
        · obtain ⟨hd0, hd1, hd2⟩ := trips_get (marked vs (.string markText, .slice none 0 0, .slice none 0 0) zero3 j) (k + j) (by rw [length_marked _ _ _ hj, HV.out]; omega)
          have hz0 := (hown.cell ((k + j) * 3)).trans hd0
          have hz1 := (hown.cell ((k + j) * 3 + 1)).trans hd1
          have hz2 := (hown.cell ((k + j) * 3 + 2)).trans hd2
          have hy0 := hown.frozen ((k + j) * 3)
          have hy1 := hown.frozen ((k + j) * 3 + 1)
          have hy2 := hown.frozen ((k + j) * 3 + 2)
          clear hd0 hd1 hd2
          go_wp2
          clear hz0 hz1 hz2 hy0 hy1 hy2
          go_roundw
          case rel =>
            refine ⟨j + 1, by omega, by go_num, ((hext.setCell (Nat.le_of_eq HL.out) _).setCell (Nat.le_of_eq HL.out) _).setCell (Nat.le_of_eq HL.out) _, ?_, ((hent.set _ _).set _ _).set _ _⟩
            have := hown.set3 ((k + j) * 3) (.string markText) (.slice none 0 0) (.slice none 0 0)
            have e := trips_set (marked vs (.string markText, .slice none 0 0, .slice none 0 0) zero3 j) (k + j) (.string markText, .slice none 0 0, .slice none 0 0) (by rw [length_marked _ _ _ hj, HV.out]; omega)
            rw [e, marked_set _ _ _ HV.out hlt] at this
            exact this
          case measure => simp [intOf]; omega
        · have hj8 : j = 8 := by omega
          subst hj8
          have e8 : marked vs (.string markText, .slice none 0 0, .slice none 0 0) zero3 8 = vs ++ List.replicate 8 (.string markText, .slice none 0 0, .slice none 0 0) := by simp [marked]
          rw [e8] at hown
          clear e8
          have hlL : w.heap.size + 1 + 1 < wr.heap.size := hown.lt
          have hexw : Ext w wr := hx1.trans hext
          have hb0 : wr.cell? ⟨w.heap.size, 0, none⟩ = some (.slice sa ns cs) := (hbox.ext hext).cell 0
          have hrs := hres.ext hext
          have HS : Hid (StrsAt w sa ns P.strings) := hs
          clear hs hx1 hext hbox hres HW HL
          have hkk : (k : Int) ≤ (k : Int) + 8 := by omega
          have hk0 : (0 : Int) ≤ (k : Int) := by omega
          go_wp2
          go_region_held3 (fun w' => Ext w w' ∧ w'.cell? ⟨w.heap.size, 0, none⟩ = some (.slice sa ns cs))
            (first | exact ⟨Ext.drew hexw, hb0⟩ | assumption | exact ⟨hexw.trans (Ext.trans ((Ext.refl wr).drew) heC), Ext.cell heC hb0⟩ | exact ⟨((hexw.trans (Ext.trans ((Ext.refl wr).drew) heC)).setCell (by omega) _).setCell (by omega) _, by simp [World.cell?_setCell_other, heC.cell hb0]⟩ | fail)
            (first
              | (go_at_call 10; refine (textsOf_ext _ _ _ _ _ (HS.out.ext (And.left (by assumption))) hns).mono ?_; rintro e wC ⟨rfl, heC, hoC⟩; have hz0 := (hrs.ext (Ext.trans ((Ext.refl wr).drew) heC)).cell 0; have hz1 := (hrs.ext (Ext.trans ((Ext.refl wr).drew) heC)).cell 1; have hy0 := (hrs.ext (Ext.trans ((Ext.refl wr).drew) heC)).frozen 0; have hy1 := (hrs.ext (Ext.trans ((Ext.refl wr).drew) heC)).frozen 1; simp only [List.getElem?_cons_zero, List.getElem?_cons_succ] at hz0 hz1))
          rename_i hfin
          have hz2 : ((wC.setCell ⟨w.heap.size + 1, 0, none⟩ (.slice (some ⟨wr.heap.size, 0, none⟩) ns (ns + 8))).setCell ⟨w.heap.size + 1, 1, none⟩ (.slice (some ⟨w.heap.size + 1 + 1, 0, none⟩) k (k + 8))).cell? ⟨w.heap.size + 1, 0, none⟩ = some (.slice (some ⟨wr.heap.size, 0, none⟩) ns (ns + 8)) := by go_simp
          have hz3 : ((wC.setCell ⟨w.heap.size + 1, 0, none⟩ (.slice (some ⟨wr.heap.size, 0, none⟩) ns (ns + 8))).setCell ⟨w.heap.size + 1, 1, none⟩ (.slice (some ⟨w.heap.size + 1 + 1, 0, none⟩) k (k + 8))).cell? ⟨w.heap.size + 1, 1, none⟩ = some (.slice (some ⟨w.heap.size + 1 + 1, 0, none⟩) k (k + 8)) := by go_simp
          go_wp2
          have hq := hoC.lt
          have hq2 := heC.size
          refine bodyPost_ret (v := .agg #[.slice (some ⟨wr.heap.size, 0, none⟩) ns (ns + 8), .slice (some ⟨w.heap.size + 1 + 1, 0, none⟩) k (k + 8)]) (by simp [results, Try.results4, go_sem, hz2, hz3]) rfl ⟨wr.heap.size, w.heap.size + 1 + 1, vs, rfl, hfin.1, ?_, HV.out, ?_, ?_⟩
          · exact (hoC.other (by simp; omega) _ _).other (by simp; omega) _ _
          · exact (((hown.ext ((Ext.refl wr).drew)).ext heC).other (by omega) _ _).other (by omega) _ _
          · exact (((hent.ext ((Ext.refl wr).drew)).ext heC).under (by omega) _ _).under (by omega) _ _

end Go.Proofs.Ytkhenmpdlnhgjaa
