import Derived.Test.YtkhenmpdlnhgjaaPackOf
namespace Go.Proofs.Ytkhenmpdlnhgjaa
open Go.RowKit

def mark3 : Trip := (.string markText, .slice none 0 0, .slice none 0 0)
/-- A pack of our own making. -/
def Made (w : World) (bs bp np : Nat) (P : Pk) (vs : List Trip) : Prop :=
  OwnRow w bs (strs (P.strings ++ List.replicate 8 markText)) 9 ∧ vs.length = np ∧ OwnRow w bp (trips (vs ++ List.replicate 8 mark3)) 37 ∧ Entries w bp vs P.phrases
theorem Made.ext {w w' : World} {bs bp np : Nat} {P : Pk} {vs : List Trip} (h : Made w bs bp np P vs) (e : Ext w w') : Made w' bs bp np P vs := ⟨h.1.ext e, h.2.1, h.2.2.1.ext e, h.2.2.2.ext e⟩
/-- One of its phrases, as cells. -/
theorem Made.phrase {w : World} {bs bp np : Nat} {P : Pk} {vs : List Trip} (h : Made w bs bp np P vs) {k : Nat} (hk : k < np) {f : Phr} (hf : P.phrases.getD k noPhr = f) :
    ∃ ba bc, w.cell? ⟨bp, k * 3, none⟩ = some (.string f.name) ∧ w.cell? ⟨bp, k * 3 + 1, none⟩ = some (.slice (some ⟨ba, 0, none⟩) f.args.length (f.args.length + 8)) ∧
      w.cell? ⟨bp, k * 3 + 2, none⟩ = some (.slice (some ⟨bc, 0, none⟩) f.code.length (f.code.length + 8)) ∧
      IntsAt w (some ⟨ba, 0, none⟩) (f.args.length + 8) (f.args ++ List.replicate 8 (-77)) ∧ CodeAt w (some ⟨bc, 0, none⟩) (f.code.length + 8) (f.code ++ List.replicate 8 (-77, 7, 7)) := by
  obtain ⟨_, hl, hr, he⟩ := h
  obtain ⟨ba, bc, _, _, hv, ho1, ho2⟩ := he k (by omega)
  rw [hf] at hv ho1 ho2
  obtain ⟨h0, h1, h2⟩ := trips_get (vs ++ List.replicate 8 mark3) k (by simp; omega)
  have hg : (vs ++ List.replicate 8 mark3).getD k zero3 = vs.getD k zero3 := by simp [List.getD, List.getElem?_append_left (show k < vs.length by omega)]
  rw [hg, hv] at h0 h1 h2
  refine ⟨ba, bc, ?_, ?_, ?_, IntsAt.of_row ho1 (by simp), CodeAt.of_row ho2 (by simp)⟩
  · rw [hr.cell]; exact h0
  · rw [hr.cell]; exact h1
  · rw [hr.cell]; exact h2
theorem Made.mark {w : World} {bs bp np : Nat} {P : Pk} {vs : List Trip} (h : Made w bs bp np P vs) {j : Nat} (hj : j < 8) :
    w.cell? ⟨bp, (np + j) * 3, none⟩ = some (.string markText) ∧ w.cell? ⟨bp, (np + j) * 3 + 1, none⟩ = some (.slice none 0 0) ∧ w.cell? ⟨bp, (np + j) * 3 + 2, none⟩ = some (.slice none 0 0) := by
  obtain ⟨_, hl, hr, he⟩ := h
  obtain ⟨h0, h1, h2⟩ := trips_get (vs ++ List.replicate 8 mark3) (np + j) (by simp; omega)
  have hg : (vs ++ List.replicate 8 mark3).getD (np + j) zero3 = mark3 := by
    rw [List.getD, List.getElem?_append_right (by omega), List.getElem?_replicate, if_pos (by omega)]; rfl
  rw [hg] at h0 h1 h2
  rw [hr.cell, hr.cell, hr.cell]
  exact ⟨h0, h1, h2⟩

set_option maxHeartbeats 1000000 in
theorem stillPack_yes (sa ap : Option Addr) (ns np cs cp bs bp : Nat) (P : Pk) (vs : List Trip) (w : World) (hs : StrsAt w sa ns P.strings) (hp : PhrasesAt w ap np P.phrases) (hns : ns ≤ 8796093022208) (hnp : np ≤ 2199023255552)
    (hm : Made w bs bp np P vs) :
    Calls Try.prog 6 #[.agg #[.slice (some ⟨bs, 0, none⟩) ns (ns + 8), .slice (some ⟨bp, 0, none⟩) np (np + 8)], .agg #[.slice sa ns cs, .slice ap np cp]] w fun e w' => e = .returned (.bool true) ∧ Ext w w' := by
  go_enter Try.func6, Try.ntmps6
  go_wp2_with fail
  obtain ⟨W1, HW⟩ : ∃ W1, Hid (W1 = (w.alloc (.cells #[.slice (some ⟨bs, 0, none⟩) ns (ns + 8), .slice (some ⟨bp, 0, none⟩) np (np + 8)] 25)).alloc (.cells #[.slice sa ns cs, .slice ap np cp] 25)) := ⟨_, rfl⟩
  have hx1 : Ext w W1 := by rw [HW.out]; exact ((Ext.refl w).alloc _).alloc _
  have hbo : OwnRow W1 w.heap.size [.slice (some ⟨bs, 0, none⟩) ns (ns + 8), .slice (some ⟨bp, 0, none⟩) np (np + 8)] 25 := by
    rw [HW.out]
    exact OwnRow.ext (OwnRow.alloc w [.slice (some ⟨bs, 0, none⟩) ns (ns + 8), .slice (some ⟨bp, 0, none⟩) np (np + 8)] 25) ((Ext.refl _).alloc _)
  have hbp : OwnRow W1 (w.heap.size + 1) [.slice sa ns cs, .slice ap np cp] 25 := by
    rw [HW.out]
    have := OwnRow.alloc (w.alloc (.cells #[.slice (some ⟨bs, 0, none⟩) ns (ns + 8), .slice (some ⟨bp, 0, none⟩) np (np + 8)] 25)) [.slice sa ns cs, .slice ap np cp] 25
    simpa using this
  rw [← HW.out]
  refine (stillTexts_yes _ _ _ _ _ P.strings _ (StrsAt.of_row (hm.ext hx1).1 (by simp [hs.1])) (hs.ext hx1) (Nat.le_refl _) (by unfold maxLen; omega)).mono ?_
  rintro e w1 ⟨rfl, he1⟩
  have hbo1 := hbo.ext he1
  have hbp1 := hbp.ext he1
  have hm1 := hm.ext (hx1.trans he1)
  have hp1 := hp.ext (hx1.trans he1)
  have hxw := hx1.trans he1
  have hb1 : w1.cell? ⟨w.heap.size, 1, none⟩ = some (.slice (some ⟨bp, 0, none⟩) np (np + 8)) := hbo1.cell 1
  clear hs hp hm HW hx1 hbo hbp he1
  go_wp2
  go_loopw [7] (fun i wr => ∃ k : Nat, k ≤ np ∧ i = .int .i64 k ∧ Ext w1 wr) (fun i _ => np - (intOf i).toNat)
  case atStart => exact ⟨0, Nat.zero_le _, rfl, Ext.refl _⟩
  case round =>
    obtain ⟨k, hk, rfl, hext⟩ := hrel
    by_cases hlt : k < np
    · obtain ⟨b, o, rfl, hph⟩ := (hp1.ext hext).2 k hlt
      obtain ⟨aa, ca, ac, cc, hc0, hc1, hc2, hia, hca, hla, hlc, _⟩ := hph
      generalize hf : P.phrases.getD k noPhr = f at hc0 hc1 hc2 hia hca hla hlc
      obtain ⟨ba, bc, hd0, hd1, hd2, hja, hjc⟩ := (hm1.ext hext).phrase hlt hf
      have HF : Hid (P.phrases.getD k noPhr = f) := hf
      clear hf hb1
      obtain ⟨nm, args, code⟩ := f
      simp only at hc0 hc1 hc2 hia hca hla hlc hd0 hd1 hd2 hja hjc
      have hne : Nonempty (ExtW wr) := ⟨⟨wr, Ext.refl wr⟩⟩
      have ho1 := fun n : ExtW wr => ((hbo1.ext hext).ext n.ext).cell 1
      have hp1' := fun n : ExtW wr => ((hbp1.ext hext).ext n.ext).cell 1
      simp only [List.getElem?_cons_succ, List.getElem?_cons_zero] at ho1 hp1'
      have hq0 := fun n : ExtW wr => n.cell hc0
      have hq1 := fun n : ExtW wr => n.cell hc1
      have hq2 := fun n : ExtW wr => n.cell hc2
      have hr0 := fun n : ExtW wr => n.cell hd0
      have hr1 := fun n : ExtW wr => n.cell hd1
      have hr2 := fun n : ExtW wr => n.cell hd2
      clear hc0 hc1 hc2 hd0 hd1 hd2
      go_wp2
      refine wp_region_ext_from (wb := wr) (Ext.refl wr) (by kernel_rfl) (by kernel_rfl) ?_
      repeat (go_big_quiet_step ((go_at_call 14; exact calls_ext_of (stillInts_yes _ _ _ _ _ args _ (hja.ext (ExtW.ext _)) (hia.ext (ExtW.ext _)) (Nat.le_refl _) (by unfold maxLen; omega)))))
      refine wpQuiet_nil ?_
      rintro _ ⟨nq, rfl⟩
      go_wp2
      refine wp_region_ext_from (wb := wr) nq.ext (by kernel_rfl) (by kernel_rfl) ?_
      repeat (go_big_quiet_step ((go_at_call 15; exact calls_ext_of (stillCode_yes _ _ _ _ _ code _ (hjc.ext (ExtW.ext _)) (hca.ext (ExtW.ext _)) (Nat.le_refl _) (by unfold maxLen; omega)))))
      refine wpQuiet_nil ?_
      rintro _ ⟨nr, rfl⟩
      go_wp2
      refine wp_region_ext_from (wb := wr) nr.ext (by kernel_rfl) (by kernel_rfl) ?_
      repeat (go_big_quiet_step (fail))
      refine wpQuiet_nil ?_
      rintro _ ⟨nt, rfl⟩
      go_wp2
      go_roundw
      case rel => exact ⟨k + 1, by omega, by go_num, hext.trans nt.ext⟩
      case measure => simp [intOf]; omega
    · have hb1' := hext.cell hb1
      go_wp2
      go_loopw [11] (fun i wr => ∃ k : Nat, k ≤ 8 ∧ i = .int .i64 k ∧ Ext w1 wr) (fun i _ => 8 - (intOf i).toNat)
      case atStart => exact ⟨0, Nat.zero_le _, rfl, hext⟩
      case round =>
        clear hext hb1 hb1'
        obtain ⟨j, hj, rfl, hext⟩ := hrel
        by_cases hlt8 : j < 8
        · obtain ⟨hc0, hc1, hc2⟩ := (hm1.ext hext).mark hlt8
          have hmk : (!markText.toList == [109, 97, 114, 107]) = false := by rw [ByteArray.toList_eq]; rfl
          go_wp2
          go_roundw
          case rel => exact ⟨j + 1, by omega, by go_num, hext⟩
          case measure => simp [intOf]; omega
        · go_wp2
          go_ret
          exact ⟨rfl, hxw.trans hext⟩

end Go.Proofs.Ytkhenmpdlnhgjaa
