import Derived.Test.YtkhenmpdlnhgjaaDoorRead2
import Derived.Defers
import Derived.Recover
import Derived.Laws.Pointers
namespace Go.Proofs.YtkhenmpdlnhgjaaDoor
open Go.RowKit

theorem catch_panicking (a b : Nat) (u : TypeId) (pv : Value) (w : World) (ha : OwnRow w a [.slice none 0 0, .slice none 0 0] 27) (hb : OwnRow w b [.int .i64 0] 37) (_hab : a ≠ b) :
    CallsD Tryd.prog 38 #[.pointer (some ⟨a, 0, none⟩), .pointer (some ⟨b, 0, none⟩)] (.panicking [{ v := .iface u pv, recovered := false }]) w fun e u' w' =>
      e = .returned (.tuple #[]) ∧ u' = .panicking [{ v := .iface u pv, recovered := true }] ∧ w' = ((w.setCell ⟨a, 0, none⟩ (.slice none 0 0)).setCell ⟨a, 1, none⟩ (.slice none 0 0)).setCell ⟨b, 0, none⟩ (.int .i64 2) := by
  have h0 : w.cell? ⟨a, 0, none⟩ = some (.slice none 0 0) := ha.cell 0
  have h1 : w.cell? ⟨a, 1, none⟩ = some (.slice none 0 0) := ha.cell 1
  have h2 : w.cell? ⟨b, 0, none⟩ = some (.int .i64 0) := hb.cell 0
  have f0 := ha.frozen 0
  have f1 := ha.frozen 1
  have f2 := hb.frozen 0
  refine callsD_of_wpS Tryd.func38 rfl fun c₀ cs hu => ?_
  apply wpS_seq
  apply wpS_region
  simp [wpOpsS, go_sem, recoverD, hu, Tryd.ntmps38, Exit.thenS]
  refine wpS_cond (t := true) (by simp [Act.eval, Array.replicate]) ?_
  simp only [if_true]
  apply wpS_region
  simp [wpOpsS, go_sem, h0, h1, h2, f0, f1, f2, bodyPostS, results, Tryd.results38]

theorem catch_idle (a b : Nat) (w : World) :
    CallsD Tryd.prog 38 #[.pointer (some ⟨a, 0, none⟩), .pointer (some ⟨b, 0, none⟩)] .returning w fun e u' w' => e = .returned (.tuple #[]) ∧ u' = .returning ∧ w' = w := by
  refine callsD_of_wpS Tryd.func38 rfl fun c₀ cs hu => ?_
  apply wpS_seq
  apply wpS_region
  simp [wpOpsS, go_sem, recoverD, hu, Tryd.ntmps38, Exit.thenS]
  refine wpS_cond (t := false) (by simp [Act.eval, Array.replicate]) ?_
  simp only [Bool.false_eq_true, if_false]
  refine wpS_of_wp (wp_skip ?_)
  cases c₀
  simp_all [bodyPostS, results, Tryd.results38]

set_option maxHeartbeats 1000000 in
theorem face_any (bs : List UInt8) (et : TypeId) (ev : Value) (w : World) (hl : bs.length ≤ 140737488355328) (hE : w.cell? ⟨0, 0, none⟩ = some (.iface et ev)) :
    Calls Tryd.prog 20 #[.string ⟨bs.toArray⟩] w fun e w' =>
      Outc (pPack bs) (fun P => ∃ v, e = .returned (.tuple #[v, .int .i64 0]) ∧ ReadPk w' w.heap.size v P ∧ (∀ f ∈ P.phrases, PSized f) ∧ Ext w w') (e = .returned (.tuple #[.agg #[.slice none 0 0, .slice none 0 0], .int .i64 2]) ∧ Ext w w') := by
  have hmf := run_makeFunc
  go_enter_defers Tryd.func20, Tryd.ntmps20
  go_wp2_with fail
  obtain ⟨W1, HW⟩ : ∃ W1, Hid (W1 = (w.alloc (.cells #[.slice none 0 0, .slice none 0 0] 27)).alloc (.cells #[.int .i64 0] 37)) := ⟨_, rfl⟩
  have hx1 : Ext w W1 := by rw [HW.out]; exact ((Ext.refl w).alloc _).alloc _
  have ha1 : OwnRow W1 w.heap.size [.slice none 0 0, .slice none 0 0] 27 := by
    rw [HW.out]
    exact OwnRow.ext (OwnRow.alloc w [.slice none 0 0, .slice none 0 0] 27) ((Ext.refl _).alloc _)
  have hb1 : OwnRow W1 (w.heap.size + 1) [.int .i64 0] 37 := by
    rw [HW.out]
    have := OwnRow.alloc (w.alloc (.cells #[.slice none 0 0, .slice none 0 0] 27)) [.int .i64 0] 37
    simpa using this
  rw [← HW.out]
  clear HW
  refine (read_any bs et ev W1 hl (hx1.cell hE)).mono ?_
  intro e w2 hO
  cases hP : pPack bs with
  | none =>
    obtain ⟨rfl, hx2⟩ := hO.no hP
    have ha2 := ha1.ext hx2
    have hb2 := hb1.ext hx2
    refine leaves_cons (f := 38) (args := #[.pointer (some ⟨w.heap.size, 0, none⟩), .pointer (some ⟨w.heap.size + 1, 0, none⟩)]) (by simp) (by simp [go_sem]) ?_
    refine (catch_panicking w.heap.size (w.heap.size + 1) et ev w2 ha2 hb2 (by omega)).mono ?_
    rintro e u' w3 ⟨rfl, rfl, rfl⟩
    have ha3 := ((ha2.set 0 (.slice none 0 0)).set 1 (.slice none 0 0)).other (b := w.heap.size + 1) (by omega) 0 (.int .i64 2)
    have hb3 := (((hb2.other (b := w.heap.size) (by omega) 0 (.slice none 0 0))).other (b := w.heap.size) (by omega) 1 (.slice none 0 0)).set 0 (.int .i64 2)
    simp only [List.set_cons_zero, List.set_cons_succ] at ha3 hb3
    have hx3 := ((((hx1.trans hx2).setCell (b := w.heap.size) (i := 0) (Nat.le_refl _) (.slice none 0 0)).setCell (b := w.heap.size) (i := 1) (Nat.le_refl _) (.slice none 0 0))).setCell (b := w.heap.size + 1) (i := 0) (by omega) (.int .i64 2)
    have z0 := ha3.cell 0
    have z1 := ha3.cell 1
    have z2 := hb3.cell 0
    simp only [List.getElem?_cons_zero, List.getElem?_cons_succ] at z0 z1 z2
    clear ha3 hb3
    generalize ((w2.setCell ⟨w.heap.size, 0, none⟩ (.slice none 0 0)).setCell ⟨w.heap.size, 1, none⟩ (.slice none 0 0)).setCell ⟨w.heap.size + 1, 0, none⟩ (.int .i64 2) = wf at z0 z1 z2 hx3 ⊢
    simp [Leaves, settle, results, Tryd.results20, go_sem, z0, z1, z2]
    exact outc_no hP hx3
  | some P =>
    obtain ⟨v, rfl, hpk, hz, hx2⟩ := hO.yes hP
    have ha2 := ha1.ext hx2
    have hb2 := hb1.ext hx2
    obtain ⟨sa, ns, cs, ap, np, cp, vs, rfl, hS, hQ, hEn⟩ := hpk
    have HP := hide hP
    have k0 := ha2.cell 0
    have k1 := ha2.cell 1
    have k2 := hb2.cell 0
    have l0 := ha2.frozen 0
    have l1 := ha2.frozen 1
    have l2 := hb2.frozen 0
    simp only [List.getElem?_cons_zero, List.getElem?_cons_succ] at k0 k1 k2
    clear hO hP
    go_wp2_with fail
    refine leaves_cons (f := 38) (args := #[.pointer (some ⟨w.heap.size, 0, none⟩), .pointer (some ⟨w.heap.size + 1, 0, none⟩)]) (by simp) (by simp [go_sem]) ?_
    refine (catch_idle w.heap.size (w.heap.size + 1) _).mono ?_
    rintro e u' w3 ⟨rfl, rfl, rfl⟩
    have a3 := ha2.set 0 (.slice sa ns cs)
    have a4 := a3.set 1 (.slice ap np cp)
    have a5 := a4.other (b := w.heap.size + 1) (by omega) 0 (.int .i64 0)
    have b3 := hb2.other (b := w.heap.size) (by omega) 0 (.slice sa ns cs)
    have b4 := b3.other (b := w.heap.size) (by omega) 1 (.slice ap np cp)
    have b5 := b4.set 0 (.int .i64 0)
    have s3 := ownsOther (u := .slice sa ns cs) hS ha2 (by decide) 0
    have s4 := ownsOther (u := .slice ap np cp) s3 a3 (by decide) 1
    have s5 := ownsOther (u := .int .i64 0) s4 b4 (by decide) 0
    have q3 := ownsOther (u := .slice sa ns cs) hQ ha2 (by decide) 0
    have q4 := ownsOther (u := .slice ap np cp) q3 a3 (by decide) 1
    have q5 := ownsOther (u := .int .i64 0) q4 b4 (by decide) 0
    have e3 := hEn.other ha2 (by decide) (by decide) 0 (.slice sa ns cs)
    have e4 := e3.other a3 (by decide) (by decide) 1 (.slice ap np cp)
    have e5 := e4.other b4 (by decide) (by decide) 0 (.int .i64 0)
    simp only [List.set_cons_zero, List.set_cons_succ] at a5 b5
    have hx3 := ((((hx1.trans hx2).setCell (b := w.heap.size) (i := 0) (Nat.le_refl _) (.slice sa ns cs)).setCell (b := w.heap.size) (i := 1) (Nat.le_refl _) (.slice ap np cp))).setCell (b := w.heap.size + 1) (i := 0) (by omega) (.int .i64 0)
    have z0 := a5.cell 0
    have z1 := a5.cell 1
    have z2 := b5.cell 0
    simp only [List.getElem?_cons_zero, List.getElem?_cons_succ] at z0 z1 z2
    have hle := hx1.size
    clear a3 a4 a5 b3 b4 b5 s3 s4 q3 q4 e3 e4 k0 k1 k2 l0 l1 l2 ha2 hb2 hS hQ hEn
    generalize ((w2.setCell ⟨w.heap.size, 0, none⟩ (.slice sa ns cs)).setCell ⟨w.heap.size, 1, none⟩ (.slice ap np cp)).setCell ⟨w.heap.size + 1, 0, none⟩ (.int .i64 0) = wf at z0 z1 z2 hx3 s5 q5 e5 ⊢
    have hfin : ReadPk wf w.heap.size (.agg #[.slice sa ns cs, .slice ap np cp]) P := ⟨sa, ns, cs, ap, np, cp, vs, rfl, ownsBase s5 hle, ownsBase q5 hle, e5.base hle⟩
    clear s5 q5 e5
    simp [Leaves, settle, results, Tryd.results20, go_sem, z0, z1, z2]
    exact outc_yes HP.out ⟨hfin, hz, hx3⟩

def nilPk : Value := .agg #[.slice none 0 0, .slice none 0 0]
/-- What Decode makes of bytes: a pack and 0; or nothing, and the error. -/
def decOf (bs : List UInt8) : Option Pk := if bs.length ≤ 4000 then pPack bs else none
def decErr (bs : List UInt8) : Int := if bs.length ≤ 4000 then 2 else 1

set_option maxHeartbeats 1000000 in
theorem decode_any (bs : List UInt8) (et : TypeId) (ev : Value) (w : World) (hl : bs.length ≤ 140737488355328) (hE : w.cell? ⟨0, 0, none⟩ = some (.iface et ev)) :
    Calls Tryd.prog 11 #[.string ⟨bs.toArray⟩] w fun e w' =>
      Outc (decOf bs) (fun P => ∃ v, e = .returned (.tuple #[v, .int .i64 0]) ∧ ReadPk w' w.heap.size v P ∧ (∀ f ∈ P.phrases, PSized f) ∧ Ext w w') (e = .returned (.tuple #[nilPk, .int .i64 (decErr bs)]) ∧ Ext w w') := by
  have hx1 := (Ext.refl w).alloc (.cells #[.slice none 0 0, .slice none 0 0] 27)
  have ha1 := OwnRow.alloc w [.slice none 0 0, .slice none 0 0] 27
  by_cases h4 : bs.length ≤ 4000
  · have HD : Hid (decOf bs = pPack bs) := by show _ = _; unfold decOf; rw [if_pos h4]
    have HR : Hid (decErr bs = 2) := by show _ = _; unfold decErr; rw [if_pos h4]
    have hi : ¬ (4000 : Int) < bs.length := by omega
    go_enter Tryd.func11, Tryd.ntmps11
    go_wp2_with fail
    refine (face_any bs et ev _ hl (hx1.cell hE)).mono ?_
    intro e w2 hO
    cases hP : pPack bs with
    | none =>
      obtain ⟨rfl, hx2⟩ := hO.no hP
      have ha2 := ha1.ext hx2
      have HP := hide hP
      have k0 := ha2.cell 0
      have k1 := ha2.cell 1
      have l0 := ha2.frozen 0
      have l1 := ha2.frozen 1
      simp only [List.getElem?_cons_zero, List.getElem?_cons_succ] at k0 k1
      clear hO hP
      go_wp2_with fail
      have a3 := (ha2.set 0 (.slice none 0 0)).set 1 (.slice none 0 0)
      simp only [List.set_cons_zero, List.set_cons_succ] at a3
      have z0 := a3.cell 0
      have z1 := a3.cell 1
      simp only [List.getElem?_cons_zero, List.getElem?_cons_succ] at z0 z1
      have hx3 := ((hx1.trans hx2).setCell (b := w.heap.size) (i := 0) (Nat.le_refl _) (.slice none 0 0)).setCell (b := w.heap.size) (i := 1) (Nat.le_refl _) (.slice none 0 0)
      clear k0 k1 l0 l1 a3 ha2
      refine bodyPost_ret (v := .tuple #[nilPk, .int .i64 2]) ?_ rfl (outc_no (HD.out.trans HP.out) ⟨by rw [HR.out], hx3⟩)
      generalize ((w2.setCell ⟨w.heap.size, 0, none⟩ (.slice none 0 0)).setCell ⟨w.heap.size, 1, none⟩ (.slice none 0 0)) = wf at z0 z1 ⊢
      simp [results, Tryd.results11, go_sem, z0, z1, nilPk]
    | some P =>
      obtain ⟨v, rfl, hpk, hz, hx2⟩ := hO.yes hP
      have ha2 := ha1.ext hx2
      obtain ⟨sa, ns, cs, ap, np, cp, vs, rfl, hS, hQ, hEn⟩ := hpk
      have HP := hide hP
      have k0 := ha2.cell 0
      have k1 := ha2.cell 1
      have l0 := ha2.frozen 0
      have l1 := ha2.frozen 1
      simp only [List.getElem?_cons_zero, List.getElem?_cons_succ] at k0 k1
      clear hO hP
      go_wp2_with fail
      have a3 := ha2.set 0 (.slice sa ns cs)
      have a4 := a3.set 1 (.slice ap np cp)
      have s3 := ownsOther (u := .slice sa ns cs) hS ha2 (by decide) 0
      have s4 := ownsOther (u := .slice ap np cp) s3 a3 (by decide) 1
      have q3 := ownsOther (u := .slice sa ns cs) hQ ha2 (by decide) 0
      have q4 := ownsOther (u := .slice ap np cp) q3 a3 (by decide) 1
      have e3 := hEn.other ha2 (by decide) (by decide) 0 (.slice sa ns cs)
      have e4 := e3.other a3 (by decide) (by decide) 1 (.slice ap np cp)
      simp only [List.set_cons_zero, List.set_cons_succ] at a4
      have hx3 := ((hx1.trans hx2).setCell (b := w.heap.size) (i := 0) (Nat.le_refl _) (.slice sa ns cs)).setCell (b := w.heap.size) (i := 1) (Nat.le_refl _) (.slice ap np cp)
      have z0 := a4.cell 0
      have z1 := a4.cell 1
      simp only [List.getElem?_cons_zero, List.getElem?_cons_succ] at z0 z1
      have hle := hx1.size
      clear k0 k1 l0 l1 a3 a4 s3 q3 e3 ha2 hS hQ hEn
      refine bodyPost_ret (v := .tuple #[.agg #[.slice sa ns cs, .slice ap np cp], .int .i64 0]) ?_ rfl (outc_yes (HD.out.trans HP.out) ⟨_, rfl, ⟨sa, ns, cs, ap, np, cp, vs, rfl, ownsBase s4 hle, ownsBase q4 hle, e4.base hle⟩, hz, hx3⟩)
      clear s4 q4 e4 hx3
      generalize ((w2.setCell ⟨w.heap.size, 0, none⟩ (.slice sa ns cs)).setCell ⟨w.heap.size, 1, none⟩ (.slice ap np cp)) = wf at z0 z1 ⊢
      simp [results, Tryd.results11, go_sem, z0, z1]
  · have HD : Hid (decOf bs = none) := by show _ = _; unfold decOf; rw [if_neg h4]
    have HR : Hid (decErr bs = 1) := by show _ = _; unfold decErr; rw [if_neg h4]
    have hi : (4000 : Int) < bs.length := by omega
    go_enter Tryd.func11, Tryd.ntmps11
    go_wp2_with fail
    exact bodyPost_ret (v := .tuple #[nilPk, .int .i64 1]) (by simp [results, Tryd.results11, go_sem, nilPk]) rfl (outc_no HD.out ⟨by rw [HR.out], hx1⟩)

end Go.Proofs.YtkhenmpdlnhgjaaDoor
