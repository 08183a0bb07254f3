import Derived.Test.YtkhenmpdlnhgjaaDoorDec
namespace Go.Proofs.YtkhenmpdlnhgjaaDoor
open Go.RowKit

/-- A pack's two lists as they lie in memory. -/
theorem ReadPk.lists {w : World} {B : Nat} {v : Value} {P : Pk} (h : ReadPk w B v P) (hz : ∀ f ∈ P.phrases, PSized f) : ∃ sa cs ap cp, v = .agg #[.slice sa P.strings.length cs, .slice ap P.phrases.length cp] ∧ StrsAt w sa P.strings.length P.strings ∧ PhrasesAt w ap P.phrases.length P.phrases := by
  obtain ⟨sa, ns, cs, ap, np, cp, vs, h1, h2, h3, h4⟩ := h
  obtain ⟨e1, _, hS⟩ := strsAt_of_owns h2 rfl
  obtain ⟨e2, _, hP⟩ := phrasesAt_of_owns h3 rfl h4 hz
  have e3 := h4.1
  rw [e3] at e2
  subst e1
  subst e2
  exact ⟨sa, cs, ap, cp, h1, hS, hP⟩

set_option maxHeartbeats 1000000 in
theorem lawDec_any (s : ByteArray) (et : TypeId) (ev : Value) (w : World) (hl : s.size ≤ 140737488355328) (hE : w.cell? ⟨0, 0, none⟩ = some (.iface et ev)) :
    Calls Tryd.prog 8 #[.string s] w fun e w' => ∃ sa ns cs ap np cp, e = .returned (.tuple #[.agg #[.slice sa ns cs, .slice ap np cp], .bool true]) ∧ (∀ P, decOf s.data.toList = some P → np = P.phrases.length) ∧ Ext w w' := by
  have hx1 := (Ext.refl w).alloc (.cells #[.slice none 0 0, .slice none 0 0] 27)
  have ha1 := OwnRow.alloc w [.slice none 0 0, .slice none 0 0] 27
  have hds := decode_any s.data.toList et ev _ hl (hx1.cell hE)
  have e0 : (⟨s.data.toList.toArray⟩ : ByteArray) = s := by simp
  rw [e0] at hds
  have HD := hide hds
  have hsl : s.data.toList.length = s.size := rfl
  clear hds
  by_cases h4 : s.size ≤ 4000
  · have hi : ¬ (4000 : Int) < s.size := by omega
    have HDO : Hid (decOf s.data.toList = pPack s.data.toList) := by show _ = _; unfold decOf; rw [if_pos (by omega)]
    have HDE : Hid (decErr s.data.toList = 2) := by show _ = _; unfold decErr; rw [if_pos (by omega)]
    have HU := hide (unp_eq s)
    go_enter Tryd.func8, Tryd.ntmps8
    go_wp2_with fail
    refine HD.out.mono ?_
    intro e w2 hO
    cases hP : pPack s.data.toList with
    | none =>
      obtain ⟨rfl, hx2⟩ := hO.no (HDO.out.trans hP)
      have HP := hide hP
      rw [HDE.out]
      have ha2 := ha1.ext hx2
      have hxw := hx1.trans hx2
      clear hO hP hx2 ha1 hx1 HD hE
      unfold nilPk
      go_wp2_with fail
      obtain ⟨W3, HW⟩ : ∃ W3, Hid (W3 = w2.alloc (.cells #[.slice none 0 0, .slice none 0 0] 27)) := ⟨_, rfl⟩
      have hx3 : Ext w2 W3 := by rw [HW.out]; exact (Ext.refl w2).alloc _
      have hp3 : OwnRow W3 w2.heap.size [.slice none 0 0, .slice none 0 0] 27 := by rw [HW.out]; exact OwnRow.alloc w2 [.slice none 0 0, .slice none 0 0] 27
      rw [← HW.out]
      clear HW
      refine (unpack_any s W3 hl).mono ?_
      intro e w4 hO
      obtain ⟨rfl, hx4⟩ := hO.no (HU.out.trans HP.out)
      have ha4 := (ha2.ext hx3).ext hx4
      have hp4 := hp3.ext hx4
      have hxw4 := (hxw.trans hx3).trans hx4
      clear hO ha2 hx3 hx4 hp3 hxw
      have p0 := fun o : Obj => (((Ext.refl w4).alloc o)).cell (show w4.cell? ⟨w2.heap.size, 0, none⟩ = some (.slice none 0 0) from hp4.cell 0)
      have p1 := fun o : Obj => (((Ext.refl w4).alloc o)).cell (show w4.cell? ⟨w2.heap.size, 1, none⟩ = some (.slice none 0 0) from hp4.cell 1)
      unfold nilPk
      go_wp2_with fail
      obtain ⟨W5, HW⟩ : ∃ W5, Hid (W5 = w4.alloc (.cells #[.slice none 0 0, .slice none 0 0] 27)) := ⟨_, rfl⟩
      have hx5 : Ext w4 W5 := by rw [HW.out]; exact (Ext.refl w4).alloc _
      rw [← HW.out]
      clear HW p0 p1
      refine (empty_yes W5).mono ?_
      rintro e w6 ⟨rfl, hx6⟩
      have ha6 := (ha4.ext hx5).ext hx6
      have k0 := ha6.cell 0
      have k1 := ha6.cell 1
      have l0 := ha6.frozen 0
      have l1 := ha6.frozen 1
      simp only [List.getElem?_cons_zero, List.getElem?_cons_succ] at k0 k1
      have hxw6 := (hxw4.trans hx5).trans hx6
      clear ha4 hx5 hx6 hxw4 hp4
      go_wp2_with fail
      have a7 := (ha6.set 0 (.slice none 0 0)).set 1 (.slice none 0 0)
      simp only [List.set_cons_zero, List.set_cons_succ] at a7
      have z0 := a7.cell 0
      have z1 := a7.cell 1
      simp only [List.getElem?_cons_zero, List.getElem?_cons_succ] at z0 z1
      have hxf := (hxw6.setCell (b := w.heap.size) (i := 0) (Nat.le_refl _) (.slice none 0 0)).setCell (b := w.heap.size) (i := 1) (Nat.le_refl _) (.slice none 0 0)
      clear k0 k1 l0 l1 a7 ha6
      refine bodyPost_ret (v := .tuple #[nilPk, .bool true]) ?_ rfl ⟨none, 0, 0, none, 0, 0, rfl, fun P h => (by rw [HDO.out, HP.out] at h; cases h), hxf⟩
      clear hxf
      generalize ((w6.setCell ⟨w.heap.size, 0, none⟩ (.slice none 0 0)).setCell ⟨w.heap.size, 1, none⟩ (.slice none 0 0)) = wf at z0 z1 ⊢
      simp [results, Tryd.results8, go_sem, z0, z1, nilPk]
    | some P =>
      obtain ⟨v, rfl, hpk, hz, hx2⟩ := hO.yes (HDO.out.trans hP)
      have HP := hide hP
      have ha2 := ha1.ext hx2
      have hxw := hx1.trans hx2
      obtain ⟨sa, cs, ap, cp, rfl, hS, hQ⟩ := hpk.lists hz
      clear hO hP hx2 ha1 hx1 HD hE hpk
      have hlen := pPack_sound HP.out
      have hok := hlen.1
      clear hlen
      unfold okPack at hok
      simp only [Bool.and_eq_true, decide_eq_true_eq] at hok
      have hns := hok.1
      have hnp := hok.2.1
      clear hok
      have HNP : Hid (∀ P', decOf s.data.toList = some P' → P.phrases.length = P'.phrases.length) := by
        show ∀ P', decOf s.data.toList = some P' → P.phrases.length = P'.phrases.length
        intro P' h
        rw [HDO.out, HP.out] at h
        cases h; rfl
      have HZ := hide hz
      clear hz
      generalize hnsE : P.strings.length = ns at hS hns
      generalize hnpE : P.phrases.length = np at hQ hnp HNP
      have HNS := hide hnsE
      have HNPE := hide hnpE
      clear hnsE hnpE
      go_wp2_with fail
      obtain ⟨W3, HW⟩ : ∃ W3, Hid (W3 = w2.alloc (.cells #[.slice sa ns cs, .slice ap np cp] 27)) := ⟨_, rfl⟩
      have hx3 : Ext w2 W3 := by rw [HW.out]; exact (Ext.refl w2).alloc _
      have hp3 : OwnRow W3 w2.heap.size [.slice sa ns cs, .slice ap np cp] 27 := by rw [HW.out]; exact OwnRow.alloc w2 [.slice sa ns cs, .slice ap np cp] 27
      rw [← HW.out]
      clear HW
      refine (unpack_any s W3 hl).mono ?_
      intro e w4 hO
      obtain ⟨v, rfl, hpk, hz, hx4⟩ := hO.yes (HU.out.trans HP.out)
      obtain ⟨sb, ct, bp, cq, rfl, hT, hR⟩ := hpk.lists hz
      rw [HNS.out] at hT
      rw [HNPE.out] at hR
      rw [HNS.out, HNPE.out]
      have ha4 := (ha2.ext hx3).ext hx4
      have hp4 := hp3.ext hx4
      have hxw4 := (hxw.trans hx3).trans hx4
      have hS4 := (hS.ext hx3).ext hx4
      have hQ4 := (hQ.ext hx3).ext hx4
      clear hO ha2 hx3 hx4 hp3 hxw hS hQ hpk hz
      have p0 := fun o : Obj => (((Ext.refl w4).alloc o)).cell (show w4.cell? ⟨w2.heap.size, 0, none⟩ = some (.slice sa ns cs) from hp4.cell 0)
      have p1 := fun o : Obj => (((Ext.refl w4).alloc o)).cell (show w4.cell? ⟨w2.heap.size, 1, none⟩ = some (.slice ap np cp) from hp4.cell 1)
      go_wp2_with fail
      obtain ⟨W5, HW⟩ : ∃ W5, Hid (W5 = w4.alloc (.cells #[.slice sb ns ct, .slice bp np cq] 27)) := ⟨_, rfl⟩
      have hx5 : Ext w4 W5 := by rw [HW.out]; exact (Ext.refl w4).alloc _
      rw [← HW.out]
      clear HW p0 p1
      refine (samePack_yes sa ap sb bp ns np cs cp ct cq P W5 (hS4.ext hx5) (hQ4.ext hx5) (hT.ext hx5) (hR.ext hx5) (by omega) (by omega)).mono ?_
      rintro e w6 ⟨rfl, hx6⟩
      have ha6 := (ha4.ext hx5).ext hx6
      have hp6 := (hp4.ext hx5).ext hx6
      have k0 := ha6.cell 0
      have k1 := ha6.cell 1
      have l0 := ha6.frozen 0
      have l1 := ha6.frozen 1
      have p0 := hp6.cell 0
      have p1 := hp6.cell 1
      simp only [List.getElem?_cons_zero, List.getElem?_cons_succ] at k0 k1 p0 p1
      have hxw6 := (hxw4.trans hx5).trans hx6
      clear ha4 hx5 hx6 hxw4 hp4 hS4 hQ4 hT hR
      go_wp2_with fail
      have a7 := (ha6.set 0 (.slice sa ns cs)).set 1 (.slice ap np cp)
      simp only [List.set_cons_zero, List.set_cons_succ] at a7
      have z0 := a7.cell 0
      have z1 := a7.cell 1
      simp only [List.getElem?_cons_zero, List.getElem?_cons_succ] at z0 z1
      have hxf := (hxw6.setCell (b := w.heap.size) (i := 0) (Nat.le_refl _) (.slice sa ns cs)).setCell (b := w.heap.size) (i := 1) (Nat.le_refl _) (.slice ap np cp)
      clear k0 k1 l0 l1 a7 ha6 p0 p1
      refine bodyPost_ret (v := .tuple #[.agg #[.slice sa ns cs, .slice ap np cp], .bool true]) ?_ rfl ⟨sa, ns, cs, ap, np, cp, rfl, HNP.out, hxf⟩
      clear hxf
      generalize ((w6.setCell ⟨w.heap.size, 0, none⟩ (.slice sa ns cs)).setCell ⟨w.heap.size, 1, none⟩ (.slice ap np cp)) = wf at z0 z1 ⊢
      simp [results, Tryd.results8, go_sem, z0, z1]
  · have hi : (4000 : Int) < s.size := by omega
    have HDO : Hid (decOf s.data.toList = none) := by show _ = _; unfold decOf; rw [if_neg (by omega)]
    have HDE : Hid (decErr s.data.toList = 1) := by show _ = _; unfold decErr; rw [if_neg (by omega)]
    go_enter Tryd.func8, Tryd.ntmps8
    go_wp2_with fail
    refine HD.out.mono ?_
    intro e w2 hO
    obtain ⟨rfl, hx2⟩ := hO.no HDO.out
    rw [HDE.out]
    have ha2 := ha1.ext hx2
    have hxw := hx1.trans hx2
    clear hO hx2 ha1 hx1 HD hE
    unfold nilPk
    go_wp2_with fail
    obtain ⟨W5, HW⟩ : ∃ W5, Hid (W5 = w2.alloc (.cells #[.slice none 0 0, .slice none 0 0] 27)) := ⟨_, rfl⟩
    have hx5 : Ext w2 W5 := by rw [HW.out]; exact (Ext.refl w2).alloc _
    rw [← HW.out]
    clear HW
    refine (empty_yes W5).mono ?_
    rintro e w6 ⟨rfl, hx6⟩
    have ha6 := (ha2.ext hx5).ext hx6
    have k0 := ha6.cell 0
    have k1 := ha6.cell 1
    have l0 := ha6.frozen 0
    have l1 := ha6.frozen 1
    simp only [List.getElem?_cons_zero, List.getElem?_cons_succ] at k0 k1
    have hxw6 := (hxw.trans hx5).trans hx6
    clear ha2 hx5 hx6 hxw
    go_wp2_with fail
    have a7 := (ha6.set 0 (.slice none 0 0)).set 1 (.slice none 0 0)
    simp only [List.set_cons_zero, List.set_cons_succ] at a7
    have z0 := a7.cell 0
    have z1 := a7.cell 1
    simp only [List.getElem?_cons_zero, List.getElem?_cons_succ] at z0 z1
    have hxf := (hxw6.setCell (b := w.heap.size) (i := 0) (Nat.le_refl _) (.slice none 0 0)).setCell (b := w.heap.size) (i := 1) (Nat.le_refl _) (.slice none 0 0)
    clear k0 k1 l0 l1 a7 ha6
    refine bodyPost_ret (v := .tuple #[nilPk, .bool true]) ?_ rfl ⟨none, 0, 0, none, 0, 0, rfl, fun P h => (by rw [HDO.out] at h; cases h), hxf⟩
    clear hxf
    generalize ((w6.setCell ⟨w.heap.size, 0, none⟩ (.slice none 0 0)).setCell ⟨w.heap.size, 1, none⟩ (.slice none 0 0)) = wf at z0 z1 ⊢
    simp [results, Tryd.results8, go_sem, z0, z1, nilPk]

theorem exOk : okPack exPk = true := by decide +kernel
theorem exEnc : encOk exPk = true := by
  unfold encOk
  rw [exOk]
  have h1 := length_uB 8 exPk.strings.length (by decide)
  have h2 := length_uB 8 exPk.phrases.length (by decide)
  have h3 : (sB exPk.strings).length ≤ 4 * 70 := flat_le xB 70 exTexts (fun x hx => by
    have : ∀ x ∈ exTexts, x.size ≤ 60 := by decide +kernel
    exact xB_le (this x hx))
  have h4 : (psB exPk.phrases).length ≤ 1 * 2000 := flat_le pB 2000 exPk.phrases (fun f hf => by
    have : ∀ f ∈ exPk.phrases, okPhr f = true := by decide +kernel
    exact pB_le (this f hf))
  have h5 : (sumB (bodyB exPk)).length = 2 := rfl
  have hb : (packB exPk).length ≤ 4000 := by
    unfold packB
    rw [List.length_append, h5]
    unfold bodyB
    simp only [List.length_append, List.length_cons, List.length_nil]
    omega
  simp [hb]

set_option maxHeartbeats 1000000 in
theorem decodes_any (s : ByteArray) (et : TypeId) (ev : Value) (w : World) (hl : s.size ≤ 140737488355328) (hE : w.cell? ⟨0, 0, none⟩ = some (.iface et ev)) :
    Calls Tryd.prog 3 #[.string s] w fun e w' => e = .returned (.bool true) ∧ Ext w w' := by
  go_enter Tryd.func3, Tryd.ntmps3
  go_wp2_with fail
  refine (example_any w).mono ?_
  rintro e w1 ⟨sa, cs, ap, cp, rfl, hS, hQ, hx1⟩
  go_wp2_with fail
  refine (bytes_any sa ap 4 1 cs cp exPk w1 hS hQ (by omega) (by omega) (fun x hx => by
    have : ∀ x ∈ exTexts, x.size ≤ 60 := by decide +kernel
    have := this x hx
    omega)).mono ?_
  rintro e w2 ⟨t, rfl, ht, hx2⟩
  rw [exEnc]
  have ht' := ht exEnc
  have hpl : (packB exPk).length ≤ 4000 := by
    have := exEnc
    unfold encOk at this
    simp only [Bool.and_eq_true, decide_eq_true_eq] at this
    exact this.2
  have HDO : Hid (decOf t.data.toList = some exPk) := by
    show _ = _
    rw [ht']
    unfold decOf
    rw [if_pos hpl]
    exact pPack_complete exOk
  have htl : t.size ≤ 140737488355328 := by rw [ht', size_mk]; omega
  have hE2 := (hx1.trans hx2).cell hE
  clear ht ht' hpl hS hQ
  go_wp2_with fail
  refine (lawDec_any t et ev w2 htl hE2).mono ?_
  rintro e w3 ⟨sb, ns, ct, bp, np, cq, rfl, hnp, hx3⟩
  have hnp1 := hnp exPk HDO.out
  have e1 : exPk.phrases.length = 1 := rfl
  rw [e1] at hnp1
  subst hnp1
  clear hnp
  have hE3 := fun o : Obj => ((Ext.refl w3).alloc o).cell (hx3.cell hE2)
  go_wp2_with fail
  refine (lawDec_any s et ev _ hl (hE3 _)).mono ?_
  rintro e w4 ⟨sc, ns', cu, bq, np', cr, rfl, _, hx4⟩
  clear hE3
  have hx3' := (Ext.refl w3).alloc (.cells #[.slice sb ns ct, .slice bp 1 cq] 27)
  go_wp2_with fail
  go_ret
  exact ⟨rfl, (((hx1.trans hx2).trans hx3).trans hx3').trans hx4⟩

end Go.Proofs.YtkhenmpdlnhgjaaDoor
