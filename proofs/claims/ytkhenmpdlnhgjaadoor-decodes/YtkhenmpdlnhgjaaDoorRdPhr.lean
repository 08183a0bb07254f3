import Derived.Test.YtkhenmpdlnhgjaaDoorRdList
namespace Go.Proofs.YtkhenmpdlnhgjaaDoor
open Go.RowKit

theorem run_makeFunc (fn : Fn) (first cap : Array Value) (w : World) : (Instr.makeFunc fn first cap).run Tryd.prog w = .ok (.func fn first cap) w := rfl
theorem ownsOther {B b : Nat} {w : World} {e t : TypeId} {sz n : Nat} {v u : Value} {xs D : List Value} (h : w.ownsRow B e sz v n xs) (hb : OwnRow w b D t) (hne : t ≠ e) (i : Nat) : (w.setCell ⟨b, i, none⟩ u).ownsRow B e sz v n xs := by
  refine ⟨h.1, ?_⟩
  rcases h.2 with h2 | ⟨g, cap, cur, h3, h4, h5, h6⟩
  · exact .inl h2
  · refine .inr ⟨g, cap, cur, h3, h4, ?_, h6⟩
    have : g ≠ b := by
      intro e'; subst e'
      unfold OwnRow at hb
      rw [h5] at hb
      simp at hb
      exact hne hb.2.symm
    rw [Below.heap_setCell _ _ _ _ (by simpa using this)]; exact h5
theorem ownsSlice {B : Nat} {w : World} {e : TypeId} {sz n : Nat} {v : Value} {xs : List Value} (h : w.ownsRow B e sz v n xs) : ∃ a n c, v = .slice a n c := by
  rcases h.2 with ⟨rfl, _⟩ | ⟨g, cap, cur, rfl, _⟩
  · exact ⟨_, _, _, rfl⟩
  · exact ⟨_, _, _, rfl⟩
theorem ownsBase {B B' : Nat} {w : World} {e : TypeId} {sz n : Nat} {v : Value} {xs : List Value} (h : w.ownsRow B e sz v n xs) (hb : B' ≤ B) : w.ownsRow B' e sz v n xs := by
  refine ⟨h.1, ?_⟩
  rcases h.2 with h2 | ⟨g, cap, cur, h3, h4, h5⟩
  · exact .inl h2
  · exact .inr ⟨g, cap, cur, h3, Nat.le_trans hb h4, h5⟩
theorem pMany_le {α : Type} {item : List UInt8 → Option (α × List UInt8)} (hi : ∀ bs x, item bs = some x → x.2.length ≤ bs.length) : ∀ (n : Nat) (bs : List UInt8) (x : List α × List UInt8), pMany item n bs = some x → x.2.length ≤ bs.length
  | 0, bs, x, h => by simp only [pMany, Option.some.injEq] at h; subst h; exact Nat.le_refl _
  | n + 1, bs, x, h => by
    unfold pMany at h
    obtain ⟨a, ha, h⟩ := Option.bind_eq_some_iff.1 h
    obtain ⟨b, hb, rfl⟩ := Option.map_eq_some_iff.1 h
    have h1 := pMany_le hi n bs a ha
    have h2 := hi _ _ hb
    simp only; omega
theorem pList_le {α : Type} {item : List UInt8 → Option (α × List UInt8)} (hi : ∀ bs x, item bs = some x → x.2.length ≤ bs.length) {bs : List UInt8} {x : List α × List UInt8} (h : pList item bs = some x) : x.2.length ≤ bs.length := by
  unfold pList at h
  obtain ⟨a, ha, h⟩ := Option.bind_eq_some_iff.1 h
  have h1 := pNum_le ha
  have h2 := pMany_le hi _ _ _ h
  omega

set_option maxHeartbeats 1000000 in
theorem phrase_any (g : Nat) (bs : List UInt8) (et : TypeId) (ev : Value) (w : World) (h : RD w g bs) (hl : bs.length ≤ 140737488355328) (hg : 0 < g) (hE : w.cell? ⟨0, 0, none⟩ = some (.iface et ev)) :
    Calls Tryd.prog 49 #[.pointer (some ⟨g, 0, none⟩)] w fun e w' =>
      Outc (pPhr bs) (fun x => ∃ va vc, e = .returned (.agg #[.string x.1.name, va, vc]) ∧ w'.ownsRow w.heap.size 3 1 va x.1.args.length (ints x.1.args) ∧ w'.ownsRow w.heap.size 36 3 vc x.1.code.length (codes x.1.code) ∧ RD w' g x.2 ∧ KG g w w') (e = Gave et ev ∧ KG g w w') := by
  have HT : Hid (pPhr bs = (pText bs).bind fun x => (pList pKind x.2).bind fun y => (pList pIns y.2).map fun z => (⟨x.1, y.1, z.1⟩, z.2)) := rfl
  have hgl : g < w.heap.size := OwnRow.lt h
  have hmf := run_makeFunc
  go_enter Tryd.func49, Tryd.ntmps49
  go_wp2_with fail
  obtain ⟨W1, HW⟩ : ∃ W1, Hid (W1 = (w.alloc (.cells #[.string ⟨#[]⟩, .slice none 0 0, .slice none 0 0] 41)).alloc (.cells #[.string ⟨#[]⟩, .slice none 0 0, .slice none 0 0] 41)) := ⟨_, rfl⟩
  have hx1 : Ext w W1 := by rw [HW.out]; exact ((Ext.refl w).alloc _).alloc _
  have hsz1 : W1.heap.size = w.heap.size + 2 := by rw [HW.out]; simp
  have hb0 : OwnRow W1 w.heap.size [.string ⟨#[]⟩, .slice none 0 0, .slice none 0 0] 41 := by
    rw [HW.out]
    exact OwnRow.ext (OwnRow.alloc w [.string ⟨#[]⟩, .slice none 0 0, .slice none 0 0] 41) ((Ext.refl _).alloc _)
  have hb1 : OwnRow W1 (w.heap.size + 1) [.string ⟨#[]⟩, .slice none 0 0, .slice none 0 0] 41 := by
    rw [HW.out]
    have := OwnRow.alloc (w.alloc (.cells #[.string ⟨#[]⟩, .slice none 0 0, .slice none 0 0] 41)) [.string ⟨#[]⟩, .slice none 0 0, .slice none 0 0] 41
    simpa using this
  rw [← HW.out]
  clear HW
  have hr0 := h.ext hx1
  have hE0 := hx1.cell hE
  have hk0 : KG g w W1 := KG.of_ext hx1
  clear hsz1
  refine (text_any g bs et ev W1 hr0 hl hg hE0).mono ?_
  intro e w1 hO
  cases hN : pText bs with
  | none =>
    obtain ⟨rfl, hk⟩ := hO.no hN
    exact ⟨rfl, outc_no (by rw [HT.out, hN]; rfl) ⟨rfl, hk0.trans hk⟩⟩
  | some x =>
    obtain ⟨rfl, hr1, hk1⟩ := hO.yes hN
    obtain ⟨nm, r1⟩ := x
    have hle1 := (pText_le hN).2
    simp only at hr1 hk1 hle1
    have HT1 : Hid (pPhr bs = (pList pKind r1).bind fun y => (pList pIns y.2).map fun z => (⟨nm, y.1, z.1⟩, z.2)) := by show _ = _; rw [HT.out, hN]; rfl
    have hc1 := hk1.row hb1 (by omega)
    have hc0 := hk1.row hb0 (by omega)
    have hE1 := hk1.cell hE0 (by omega)
    have hkk := hk0.trans hk1
    clear hO hN hr0 hE0 hb0 hb1 hk0 hk1 HT
    have g0 := hc1.cell 0
    have f0 := hc1.frozen 0
    simp only [List.getElem?_cons_zero] at g0
    go_wp2_with fail
    have hc1' := hc1.set 0 (.string nm)
    simp only [List.set_cons_zero] at hc1'
    have hr1' : RD (w1.setCell ⟨w.heap.size + 1, 0, none⟩ (.string nm)) g r1 := OwnRow.other hr1 (by omega) _ _
    have hE1' : (w1.setCell ⟨w.heap.size + 1, 0, none⟩ (.string nm)).cell? ⟨0, 0, none⟩ = some (.iface et ev) := by
      rw [World.cell?_setCell_other]; exact hE1
      simp
    have hc0' := hc0.other (b := w.heap.size + 1) (by omega) 0 (.string nm)
    have hkk' := hkk.setNew (n := w.heap.size + 1) (by omega) 0 (.string nm)
    clear hc1 hc0 hr1 hE1 hkk g0 f0
    generalize w1.setCell ⟨w.heap.size + 1, 0, none⟩ (.string nm) = w2 at hc1' hr1' hE1' hc0' hkk' ⊢
    refine (listKind_any g r1 et ev w2 hr1' (by omega) hg hE1').mono ?_
    intro e w3 hO
    cases hN : pList pKind r1 with
    | none =>
      obtain ⟨rfl, hk⟩ := hO.no hN
      exact ⟨rfl, outc_no (by rw [HT1.out, hN]; rfl) ⟨rfl, hkk'.trans hk⟩⟩
    | some x =>
      obtain ⟨va, rfl, hoa, hr3, hk3⟩ := hO.yes hN
      obtain ⟨args, r2⟩ := x
      have hle2 := pList_le (fun bs x h => (pKind_le h).2.2) hN
      simp only at hoa hr3 hk3 hle2
      have HT2 : Hid (pPhr bs = (pList pIns r2).map fun z => (⟨nm, args, z.1⟩, z.2)) := by show _ = _; rw [HT1.out, hN]; rfl
      have hoa' := ownsBase hoa hkk'.size
      have hd1 := hk3.row hc1' (by omega)
      have hd0 := hk3.row hc0' (by omega)
      have hE3 := hk3.cell hE1' (by omega)
      have hkk3 := hkk'.trans hk3
      clear hO hN hc1' hr1' hE1' hc0' hkk' hk3 HT1 hoa
      have g1 := hd1.cell 1
      have f1 := hd1.frozen 1
      simp only [List.getElem?_cons_zero, List.getElem?_cons_succ] at g1
      obtain ⟨va0, van, vac, hva⟩ : ∃ a n c, va = .slice a n c := ownsSlice hoa'
      subst hva
      go_wp2_with fail
      have hd1' := hd1.set 1 (.slice va0 van vac)
      simp only [List.set_cons_zero, List.set_cons_succ] at hd1'
      have hr3' : RD (w3.setCell ⟨w.heap.size + 1, 1, none⟩ (.slice va0 van vac)) g r2 := OwnRow.other hr3 (by omega) _ _
      have hE3' : (w3.setCell ⟨w.heap.size + 1, 1, none⟩ (.slice va0 van vac)).cell? ⟨0, 0, none⟩ = some (.iface et ev) := by
        rw [World.cell?_setCell_other]; exact hE3
        simp
      have hd0' := hd0.other (b := w.heap.size + 1) (by omega) 1 (.slice va0 van vac)
      have hkk3' := hkk3.setNew (n := w.heap.size + 1) (by omega) 1 (.slice va0 van vac)
      have hoa2 := ownsOther (u := .slice va0 van vac) hoa' hd1 (by decide) 1
      clear hd1 hd0 hr3 hE3 hkk3 g1 f1 hoa'
      generalize w3.setCell ⟨w.heap.size + 1, 1, none⟩ (.slice va0 van vac) = w4 at hd1' hr3' hE3' hd0' hkk3' hoa2 ⊢
      refine (listIns_any g r2 et ev w4 hr3' (by omega) hg hE3').mono ?_
      intro e w5 hO
      cases hN : pList pIns r2 with
      | none =>
        obtain ⟨rfl, hk⟩ := hO.no hN
        exact ⟨rfl, outc_no (by rw [HT2.out, hN]; rfl) ⟨rfl, hkk3'.trans hk⟩⟩
      | some x =>
        obtain ⟨vc, rfl, hoc, hr5, hk5⟩ := hO.yes hN
        obtain ⟨code, r3⟩ := x
        simp only at hoc hr5 hk5
        have HT3 : Hid (pPhr bs = some (⟨nm, args, code⟩, r3)) := by show _ = _; rw [HT2.out, hN]; rfl
        have hoc' := ownsBase hoc hkk3'.size
        have hoa3 := ownsKG hoa2 hk5 hgl
        have he1 := hk5.row hd1' (by omega)
        have he0 := hk5.row hd0' (by omega)
        have hkk5 := hkk3'.trans hk5
        clear hO hN hd1' hr3' hE3' hd0' hkk3' hk5 HT2 hoa2 hoc
        obtain ⟨vc0, vcn, vcc, hvc⟩ : ∃ a n c, vc = .slice a n c := ownsSlice hoc'
        subst hvc
        have g0 := he1.cell 0
        have g1 := he1.cell 1
        have g2 := he1.cell 2
        have f2 := he1.frozen 2
        have k0 := he0.cell 0
        have k1 := he0.cell 1
        have k2 := he0.cell 2
        have l0 := he0.frozen 0
        have l1 := he0.frozen 1
        have l2 := he0.frozen 2
        simp only [List.getElem?_cons_zero, List.getElem?_cons_succ] at g0 g1 g2 k0 k1 k2
        go_wp2_with fail
        have p0 := he0.other (b := w.heap.size + 1) (by omega) 2 (.slice vc0 vcn vcc)
        have p1 := p0.set 0 (.string nm)
        have p2 := p1.set 1 (.slice va0 van vac)
        have hfin := p2.set 2 (.slice vc0 vcn vcc)
        simp only [List.set_cons_zero, List.set_cons_succ] at hfin
        have qa0 := ownsOther (u := .slice vc0 vcn vcc) hoa3 he1 (by decide) 2
        have qa1 := ownsOther (u := .string nm) qa0 p0 (by decide) 0
        have qa2 := ownsOther (u := .slice va0 van vac) qa1 p1 (by decide) 1
        have qa3 := ownsOther (u := .slice vc0 vcn vcc) qa2 p2 (by decide) 2
        have qc0 := ownsOther (u := .slice vc0 vcn vcc) hoc' he1 (by decide) 2
        have qc1 := ownsOther (u := .string nm) qc0 p0 (by decide) 0
        have qc2 := ownsOther (u := .slice va0 van vac) qc1 p1 (by decide) 1
        have qc3 := ownsOther (u := .slice vc0 vcn vcc) qc2 p2 (by decide) 2
        have hrf : RD ((((w5.setCell ⟨w.heap.size + 1, 2, none⟩ (.slice vc0 vcn vcc)).setCell ⟨w.heap.size, 0, none⟩ (.string nm)).setCell ⟨w.heap.size, 1, none⟩ (.slice va0 van vac)).setCell ⟨w.heap.size, 2, none⟩ (.slice vc0 vcn vcc)) g r3 :=
          (((OwnRow.other hr5 (by omega) _ _).other (by omega) _ _).other (by omega) _ _).other (by omega) _ _
        have hkf := (((hkk5.setNew (n := w.heap.size + 1) (by omega) 2 (.slice vc0 vcn vcc)).setNew (n := w.heap.size) (by omega) 0 (.string nm)).setNew (n := w.heap.size) (by omega) 1 (.slice va0 van vac)).setNew (n := w.heap.size) (by omega) 2 (.slice vc0 vcn vcc)
        have z0 := hfin.cell 0
        have z1 := hfin.cell 1
        have z2 := hfin.cell 2
        simp only [List.getElem?_cons_zero, List.getElem?_cons_succ] at z0 z1 z2
        clear g0 g1 g2 f2 k0 k1 k2 l0 l1 l2 qa0 qa1 qa2 qc0 qc1 qc2 p0 p1 p2
        refine bodyPost_ret (v := .agg #[.string nm, .slice va0 van vac, .slice vc0 vcn vcc]) ?_ rfl (outc_yes HT3.out ⟨_, _, rfl, qa3, qc3, hrf, hkf⟩)
        clear qa3 qc3 hrf hkf hfin
        generalize (((w5.setCell ⟨w.heap.size + 1, 2, none⟩ (.slice vc0 vcn vcc)).setCell ⟨w.heap.size, 0, none⟩ (.string nm)).setCell ⟨w.heap.size, 1, none⟩ (.slice va0 van vac)).setCell ⟨w.heap.size, 2, none⟩ (.slice vc0 vcn vcc) = wf at z0 z1 z2 ⊢
        simp [results, Tryd.results49, go_sem, z0, z1, z2]

end Go.Proofs.YtkhenmpdlnhgjaaDoor
