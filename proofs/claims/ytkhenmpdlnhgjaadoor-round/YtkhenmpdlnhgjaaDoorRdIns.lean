import Derived.Test.YtkhenmpdlnhgjaaDoorClone
namespace Go.Proofs.YtkhenmpdlnhgjaaDoor
open Go.RowKit

theorem KG.rd {g : Nat} {w w' : World} {bs : List UInt8} (h : RD w g bs) (e : Ext w w') : RD w' g bs := OwnRow.ext h e

set_option maxHeartbeats 1000000 in
theorem ins_any (g : Nat) (bs : List UInt8) (et : TypeId) (ev : Value) (w : World) (h : RD w g bs) (hl : bs.length ≤ 140737488355328) (hg : 0 < g) (hE : w.cell? ⟨0, 0, none⟩ = some (.iface et ev)) :
    Calls Tryd.prog 61 #[.pointer (some ⟨g, 0, none⟩)] w fun e w' =>
      Outc (pIns bs) (fun x => e = .returned (.agg #[.int .i64 x.1.1, .int .i64 x.1.2.1, .int .i64 x.1.2.2]) ∧ RD w' g x.2 ∧ KG g w w') (e = Gave et ev ∧ KG g w w') := by
  have HT : Hid (pIns bs = (pOct bs).bind fun x => (pNum x.2).bind fun y => (pNum y.2).map fun z => (((x.1 : Int), (y.1 : Int), (z.1 : Int)), z.2)) := rfl
  have hgl : g < w.heap.size := OwnRow.lt h
  go_enter Tryd.func61, Tryd.ntmps61
  go_wp2_with fail
  obtain ⟨W1, HW⟩ : ∃ W1, Hid (W1 = (w.alloc (.cells #[.int .i64 0, .int .i64 0, .int .i64 0] 36)).alloc (.cells #[.int .i64 0, .int .i64 0, .int .i64 0] 36)) := ⟨_, rfl⟩
  have hx1 : Ext w W1 := by rw [HW.out]; exact ((Ext.refl w).alloc _).alloc _
  have hb0 : OwnRow W1 w.heap.size [.int .i64 0, .int .i64 0, .int .i64 0] 36 := by
    rw [HW.out]
    exact OwnRow.ext (OwnRow.alloc w [.int .i64 0, .int .i64 0, .int .i64 0] 36) ((Ext.refl _).alloc _)
  have hb1 : OwnRow W1 (w.heap.size + 1) [.int .i64 0, .int .i64 0, .int .i64 0] 36 := by
    rw [HW.out]
    have := OwnRow.alloc (w.alloc (.cells #[.int .i64 0, .int .i64 0, .int .i64 0] 36)) [.int .i64 0, .int .i64 0, .int .i64 0] 36
    simpa using this
  rw [← HW.out]
  clear HW
  have hr0 := h.ext hx1
  have hE0 := hx1.cell hE
  have hk0 : KG g w W1 := KG.of_ext hx1
  cases bs with
  | nil =>
    have HN : Hid (pIns [] = none) := rfl
    refine (octet_no g et ev W1 hr0 hE0).mono ?_
    rintro e w1 ⟨rfl, hk1⟩
    exact ⟨rfl, outc_no HN.out ⟨rfl, hk0.trans hk1⟩⟩
  | cons b r =>
    have HT1 : Hid (pIns (b :: r) = (pNum r).bind fun y => (pNum y.2).map fun z => (((b.toNat : Int), (y.1 : Int), (z.1 : Int)), z.2)) := by show _ = _; rw [HT.out]; rfl
    have hrl : r.length ≤ 140737488355328 := by simp at hl; omega
    refine (octet_yes g b r W1 hr0 hl).mono ?_
    rintro e w1 ⟨rfl, hr1, hk1⟩
    have hc1 := hk1.row hb1 (by omega)
    have hc0 := hk1.row hb0 (by omega)
    have hE1 := hk1.cell hE0 (by omega)
    have hkk := hk0.trans hk1
    clear hr0 hE0 hb0 hb1 hk0 hk1 HT hl
    generalize b.toNat = n0 at HT1
    have g0 := hc1.cell 0
    have f0 := hc1.frozen 0
    simp only [List.getElem?_cons_zero] at g0
    go_wp2_with fail
    have hc1' := hc1.set 0 (.int .i64 (n0 : Int))
    simp only [List.set_cons_zero] at hc1'
    have hr1' : RD (w1.setCell ⟨w.heap.size + 1, 0, none⟩ (.int .i64 (n0 : Int))) g r := OwnRow.other hr1 (by omega) _ _
    have hE1' : (w1.setCell ⟨w.heap.size + 1, 0, none⟩ (.int .i64 (n0 : Int))).cell? ⟨0, 0, none⟩ = some (.iface et ev) := by
      rw [World.cell?_setCell_other]; exact hE1
      simp
    have hc0' := hc0.other (b := w.heap.size + 1) (by omega) 0 (.int .i64 (n0 : Int))
    have hkk' := hkk.setNew (n := w.heap.size + 1) (by omega) 0 (.int .i64 (n0 : Int))
    clear hc1 hc0 hr1 hE1 hkk g0 f0
    generalize w1.setCell ⟨w.heap.size + 1, 0, none⟩ (.int .i64 (n0 : Int)) = w2 at hc1' hr1' hE1' hc0' hkk' ⊢
    refine (number_any g r et ev w2 hr1' hrl hg hE1').mono ?_
    intro e w3 hO
    cases hN : pNum r with
    | none =>
      obtain ⟨rfl, hk⟩ := hO.no hN
      exact ⟨rfl, outc_no (by rw [HT1.out, hN]; rfl) ⟨rfl, hkk'.trans hk⟩⟩
    | some x =>
      obtain ⟨rfl, hr3, hk3⟩ := hO.yes hN
      obtain ⟨n1, r1⟩ := x
      have hle := pNum_le hN
      simp only at hr3 hk3 hle
      have HT2 : Hid (pIns (b :: r) = (pNum r1).map fun z => (((n0 : Int), (n1 : Int), (z.1 : Int)), z.2)) := by show _ = _; rw [HT1.out, hN]; rfl
      have hd1 := hk3.row hc1' (by omega)
      have hd0 := hk3.row hc0' (by omega)
      have hE3 := hk3.cell hE1' (by omega)
      have hkk3 := hkk'.trans hk3
      clear hO hN hc1' hr1' hE1' hc0' hkk' hk3 HT1
      have g1 := hd1.cell 1
      have f1 := hd1.frozen 1
      simp only [List.getElem?_cons_zero, List.getElem?_cons_succ] at g1
      go_wp2_with fail
      have hd1' := hd1.set 1 (.int .i64 (n1 : Int))
      simp only [List.set_cons_zero, List.set_cons_succ] at hd1'
      have hr3' : RD (w3.setCell ⟨w.heap.size + 1, 1, none⟩ (.int .i64 (n1 : Int))) g r1 := OwnRow.other hr3 (by omega) _ _
      have hE3' : (w3.setCell ⟨w.heap.size + 1, 1, none⟩ (.int .i64 (n1 : Int))).cell? ⟨0, 0, none⟩ = some (.iface et ev) := by
        rw [World.cell?_setCell_other]; exact hE3
        simp
      have hd0' := hd0.other (b := w.heap.size + 1) (by omega) 1 (.int .i64 (n1 : Int))
      have hkk3' := hkk3.setNew (n := w.heap.size + 1) (by omega) 1 (.int .i64 (n1 : Int))
      clear hd1 hd0 hr3 hE3 hkk3 g1 f1
      generalize w3.setCell ⟨w.heap.size + 1, 1, none⟩ (.int .i64 (n1 : Int)) = w4 at hd1' hr3' hE3' hd0' hkk3' ⊢
      refine (number_any g r1 et ev w4 hr3' (by omega) hg hE3').mono ?_
      intro e w5 hO
      cases hN : pNum r1 with
      | none =>
        obtain ⟨rfl, hk⟩ := hO.no hN
        exact ⟨rfl, outc_no (by rw [HT2.out, hN]; rfl) ⟨rfl, hkk3'.trans hk⟩⟩
      | some x =>
        obtain ⟨rfl, hr5, hk5⟩ := hO.yes hN
        obtain ⟨n2, r2⟩ := x
        simp only at hr5 hk5
        have HT3 : Hid (pIns (b :: r) = some (((n0 : Int), (n1 : Int), (n2 : Int)), r2)) := by show _ = _; rw [HT2.out, hN]; rfl
        have he1 := hk5.row hd1' (by omega)
        have he0 := hk5.row hd0' (by omega)
        have hkk5 := hkk3'.trans hk5
        clear hO hN hd1' hr3' hE3' hd0' hkk3' hk5 HT2
        have g0 := he1.cell 0
        have g1 := he1.cell 1
        have g2 := he1.cell 2
        have f2 := he1.frozen 2
        have k0 := he0.cell 0
        have k1 := he0.cell 1
        have k2 := he0.cell 2
        have l0 := he0.frozen 0
        have l1 := he0.frozen 1
        have l2 := he0.frozen 2
        simp only [List.getElem?_cons_zero, List.getElem?_cons_succ] at g0 g1 g2 k0 k1 k2
        go_wp2_with fail
        have hfin := ((he0.other (b := w.heap.size + 1) (by omega) 2 (.int .i64 (n2 : Int))).set3 0 (.int .i64 (n0 : Int)) (.int .i64 (n1 : Int)) (.int .i64 (n2 : Int)))
        simp only [List.set_cons_zero, List.set_cons_succ, Nat.zero_add] at hfin
        have hrf : RD ((((w5.setCell ⟨w.heap.size + 1, 2, none⟩ (.int .i64 (n2 : Int))).setCell ⟨w.heap.size, 0, none⟩ (.int .i64 (n0 : Int))).setCell ⟨w.heap.size, 1, none⟩ (.int .i64 (n1 : Int))).setCell ⟨w.heap.size, 2, none⟩ (.int .i64 (n2 : Int))) g r2 :=
          (((OwnRow.other hr5 (by omega) _ _).other (by omega) _ _).other (by omega) _ _).other (by omega) _ _
        have hkf := (((hkk5.setNew (n := w.heap.size + 1) (by omega) 2 (.int .i64 (n2 : Int))).setNew (n := w.heap.size) (by omega) 0 (.int .i64 (n0 : Int))).setNew (n := w.heap.size) (by omega) 1 (.int .i64 (n1 : Int))).setNew (n := w.heap.size) (by omega) 2 (.int .i64 (n2 : Int))
        have z0 := hfin.cell 0
        have z1 := hfin.cell 1
        have z2 := hfin.cell 2
        simp only [List.getElem?_cons_zero, List.getElem?_cons_succ] at z0 z1 z2
        clear g0 g1 g2 f2 k0 k1 k2 l0 l1 l2
        refine bodyPost_ret (v := .agg #[.int .i64 (n0 : Int), .int .i64 (n1 : Int), .int .i64 (n2 : Int)]) ?_ rfl (outc_yes HT3.out ⟨rfl, hrf, hkf⟩)
        generalize (((w5.setCell ⟨w.heap.size + 1, 2, none⟩ (.int .i64 (n2 : Int))).setCell ⟨w.heap.size, 0, none⟩ (.int .i64 (n0 : Int))).setCell ⟨w.heap.size, 1, none⟩ (.int .i64 (n1 : Int))).setCell ⟨w.heap.size, 2, none⟩ (.int .i64 (n2 : Int)) = wf at z0 z1 z2 ⊢
        simp [results, Tryd.results61, go_sem, z0, z1, z2]

end Go.Proofs.YtkhenmpdlnhgjaaDoor
