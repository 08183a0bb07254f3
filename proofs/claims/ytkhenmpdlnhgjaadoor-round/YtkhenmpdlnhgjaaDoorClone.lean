import Derived.Test.YtkhenmpdlnhgjaaDoorRd2
import Derived.Lib.Strings
import Derived.Lib.Walk
import Derived.Lib.BufferWrite
import Derived.Lib.UnsafeStr
import Derived.Laws.MakeOwn
namespace Go.Proofs.YtkhenmpdlnhgjaaDoor
open Go.RowKit

set_option maxHeartbeats 1000000 in
theorem cloneIn_any (s : ByteArray) (w : World) (hs : s.size ≤ 140737488355328) :
    Calls Tryd.prog 81 #[.string s] w fun e w' => e = .returned (.string s) ∧ Ext w w' := by
  by_cases h0 : s.size = 0
  · have he : s = ⟨#[]⟩ := by
      apply ByteArray.ext
      exact Array.eq_empty_of_size_eq_zero h0
    subst he
    go_enter Tryd.func81, Tryd.ntmps81
    go_wp2
    go_ret
    exact ⟨rfl, Ext.refl _⟩
  · have hmk : ∀ W : World, (Instr.makeSlice 44 (.int .i64 (s.size : Int)) (.int .i64 (s.size : Int))).run Tryd.prog W = .ok (.slice (some ⟨W.heap.size, 0, none⟩) s.size s.size) (W.alloc (.cells (Array.replicate s.size (Value.int .u8 0)) 5)) := fun W => by
      have h := run_make (P := Tryd.prog) W 44 5 Tryd.t5 (.int .u8 0) Tryd.underlying44 info_u8 zero_u8 .i64 .i64 (s.size : Int) (s.size : Int) (by omega) (by omega) (by rw [bytes_u8]; omega) (by omega)
      rw [h]
      have e1 : ((s.size : Nat) : Int).toNat = s.size := by omega
      rw [e1, size_u8, Nat.mul_one]
      have e3 : madeCells (Value.int .u8 0).cells s.size = Array.replicate s.size (Value.int .u8 0) := by
        apply Array.toList_inj.1; show (madeCells #[Value.int .u8 0] s.size).toList = _; rw [toList_madeCells_one]; simp
      rw [e3]
    have hcp := Lib.run_copy_row_string (P := Tryd.prog) (w.alloc (.cells (Array.replicate s.size (Value.int .u8 0)) 5)) 44 9 3 5 w.heap.size 0 s.size s.size s (Array.replicate s.size (Value.int .u8 0)) 5 Tryd.underlying44 (by rw [info_u8]; simp [size_u8]) (heap_alloc_new w _) (Nat.le_refl _) (by simp)
    rw [setRow_alloc] at hcp
    have hYl : (List.take 0 (Array.replicate s.size (Value.int .u8 0)).toList ++ Lib.byteCells s.data.toList ++ List.drop (0 + s.size) (Array.replicate s.size (Value.int .u8 0)).toList) = Lib.byteCells s.data.toList := by simp
    rw [hYl] at hcp
    have hlen : (Lib.byteCells s.data.toList).length = s.size := by rw [Lib.byteCells_length, ← Lib.size_eq]
    have hrow := OwnRow.alloc w (Lib.byteCells s.data.toList) 5
    have hne : s.data.toList ≠ [] := fun e => h0 (by rw [Lib.size_eq, e]; rfl)
    have hUS := Lib.run_unsafeString_row (P := Tryd.prog) (w.alloc (.cells (Lib.byteCells s.data.toList).toArray 5)) 154 3 9 5 Tryd.underlying154 (by kernel_rfl) w.heap.size s.size (by unfold World.shape?; rw [alloc_heap]; simp [hlen]) s.data.toList hne (by rw [← Lib.size_eq]; omega) (by rw [← Lib.size_eq]; omega)
      (fun j x hx => by
        have := hrow.cell j
        have hadd : (⟨w.heap.size, 0, none⟩ : Addr).add j = ⟨w.heap.size, j, none⟩ := by
          unfold Addr.add; split
          · next e => subst e; rfl
          · simp
        rw [hadd, this]; simp [Lib.byteCells, hx])
    rw [← Lib.size_eq] at hUS
    clear hYl hrow hlen hne
    generalize (Lib.byteCells s.data.toList).toArray = Y at hcp hUS
    have hps : (0 : Int) < s.size := by omega
    have h0' : ((s.size : Int) == 0) = false := by rw [beq_eq_false_iff_ne]; omega
    go_enter Tryd.func81, Tryd.ntmps81
    go_wp2
    go_ret
    exact ⟨rfl, Lib.below_freeze ((Ext.refl w).alloc _) (p := ⟨w.heap.size, 0, none⟩) (Nat.le_refl _) _⟩

set_option maxHeartbeats 400000 in
theorem clone_any (s : ByteArray) (w : World) (hs : s.size ≤ 140737488355328) :
    Calls Tryd.prog 57 #[.string s] w fun e w' => e = .returned (.string s) ∧ Ext w w' := by
  go_enter Tryd.func57, Tryd.ntmps57
  go_wp2_with fail
  refine (cloneIn_any s w hs).mono ?_
  rintro e w1 ⟨rfl, he1⟩
  go_wp2
  go_ret
  exact ⟨rfl, he1⟩

theorem RD.ext {w w' : World} {g : Nat} {bs : List UInt8} (h : RD w g bs) (e : Ext w w') : RD w' g bs := OwnRow.ext h e

set_option maxHeartbeats 400000 in
theorem text_any (g : Nat) (bs : List UInt8) (et : TypeId) (ev : Value) (w : World) (h : RD w g bs) (hl : bs.length ≤ 140737488355328) (hg : 0 < g) (hE : w.cell? ⟨0, 0, none⟩ = some (.iface et ev)) :
    Calls Tryd.prog 47 #[.pointer (some ⟨g, 0, none⟩)] w fun e w' =>
      Outc (pText bs) (fun x => e = .returned (.string x.1) ∧ RD w' g x.2 ∧ KG g w w') (e = Gave et ev ∧ KG g w w') := by
  have HT : Hid (pText bs = (pNum bs).bind fun x => (pTake x.1 x.2).map fun y => (⟨y.1.toArray⟩, y.2)) := rfl
  go_enter Tryd.func47, Tryd.ntmps47
  go_wp2_with fail
  refine (number_any g bs et ev w h hl hg hE).mono ?_
  intro e w1 hO
  cases hN : pNum bs with
  | none =>
    obtain ⟨rfl, hk⟩ := hO.no hN
    exact ⟨rfl, outc_no (by rw [HT.out, hN]; rfl) ⟨rfl, hk⟩⟩
  | some x =>
    obtain ⟨rfl, hr, hk⟩ := hO.yes hN
    obtain ⟨n, r⟩ := x
    have hle := pNum_le hN
    simp only at hr hk hle
    have HN := hide hN
    have hE1 := hk.cell hE (by omega)
    clear hO hN
    go_wp2_with fail
    by_cases hn : n ≤ r.length
    · have HP : Hid (pText bs = some (⟨(r.take n).toArray⟩, r.drop n)) := by
        show _ = _
        rw [HT.out, HN.out]
        simp [pTake, hn]
      refine (take_yes g n r w1 hr hn (by omega)).mono ?_
      rintro e w2 ⟨rfl, hr2, hk2⟩
      go_wp2_with fail
      refine (clone_any _ w2 (by simp [ByteArray.size]; omega)).mono ?_
      rintro e w3 ⟨rfl, he3⟩
      go_wp2_with fail
      go_ret
      exact outc_yes HP.out ⟨rfl, hr2.ext he3, (hk.trans hk2).trans (KG.of_ext he3)⟩
    · have HP : Hid (pText bs = none) := by
        show _ = _
        rw [HT.out, HN.out]
        simp [pTake, hn]
      refine (take_no g n r et ev w1 hr hn (by omega) (by omega) hE1).mono ?_
      rintro e w2 ⟨rfl, hk2⟩
      exact ⟨rfl, outc_no HP.out ⟨rfl, hk.trans hk2⟩⟩

set_option maxHeartbeats 400000 in
theorem kind_any (g : Nat) (bs : List UInt8) (et : TypeId) (ev : Value) (w : World) (h : RD w g bs) (hl : bs.length ≤ 140737488355328) (hE : w.cell? ⟨0, 0, none⟩ = some (.iface et ev)) :
    Calls Tryd.prog 59 #[.pointer (some ⟨g, 0, none⟩)] w fun e w' =>
      Outc (pKind bs) (fun x => e = .returned (.int .i64 x.1) ∧ RD w' g x.2 ∧ KG g w w') (e = Gave et ev ∧ KG g w w') := by
  cases bs with
  | nil => exact (octet_no g et ev w h hE).mono fun e w' hh => outc_no rfl hh
  | cons b r => exact (octet_yes g b r w h hl).mono fun e w' hh => outc_yes (x := ((b.toNat : Int), r)) rfl hh

end Go.Proofs.YtkhenmpdlnhgjaaDoor
