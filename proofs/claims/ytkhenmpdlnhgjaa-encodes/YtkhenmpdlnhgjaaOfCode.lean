import Derived.Test.YtkhenmpdlnhgjaaOf
namespace Go.Proofs.Ytkhenmpdlnhgjaa
open Go.RowKit

theorem copy_codes (a : Option Addr) (n ca : Nat) (xs : List Ins) (w : World) (ha : CodeAt w a n xs) :
    (Builtin.copy_ #[35, 35] 3 #[.slice (some ⟨w.heap.size, 0, none⟩) (n + 8) (n + 8), .slice a n ca]).run Try.prog (w.alloc (.cells (codes (List.replicate (n + 8) (0, 0, 0))).toArray 46)) =
      .ok (goInt n) (w.alloc (.cells (codes (marked xs (-77, 7, 7) (0, 0, 0) 0)).toArray 46)) := by
  have hl : xs.length = n := ha.1
  rw [run_copy_new w _ _ _ 46 3 a n (n + 8) (n + 8) ca _ _ (codes xs) Try.underlying35 (by rw [info_ins]; kernel_rfl) (by omega) (by rw [length_codes, hl]) (by simp [length_codes]; omega)
    (fun h0 => by
      obtain ⟨b, o, rfl, _⟩ := ha.2 0 h0
      refine ⟨b, o, rfl, fun j v hj => ?_⟩
      obtain ⟨i, hi, hor⟩ := codes_cell hj
      obtain ⟨b', o', he, hc0, hc1, hc2⟩ := ha.2 i (by omega)
      cases he
      rcases hor with ⟨rfl, rfl⟩ | ⟨rfl, rfl⟩ | ⟨rfl, rfl⟩
      · exact hc0
      · exact hc1
      · exact hc2)
    (fun v hv => by
      obtain ⟨x, _, hx⟩ := List.mem_flatMap.1 hv
      simp at hx
      rcases hx with rfl | rfl | rfl <;> rfl)]
  congr 4
  have e : List.replicate (n + 8) ((0, 0, 0) : Ins) = List.replicate n (0, 0, 0) ++ List.replicate 8 (0, 0, 0) := by rw [List.replicate_append_replicate]
  rw [e, codes_append, List.drop_left' (by rw [length_codes]; simp)]
  simp [marked, codes_append]

set_option maxHeartbeats 400000 in
theorem codeOf_any (a : Option Addr) (n ca : Nat) (xs : List Ins) (w : World) (ha : CodeAt w a n xs) (hn : n ≤ 5864062014805) :
    Calls Try.prog 9 #[.slice a n ca] w fun e w' => e = .returned (.slice (some ⟨w.heap.size, 0, none⟩) n (n + 8)) ∧ Ext w w' ∧ OwnRow w' w.heap.size (codes (xs ++ List.replicate 8 (-77, 7, 7))) 46 := by
  have hmk := make_codes n hn w
  have hcp := copy_codes a n ca xs w ha
  have HL : Hid (xs.length = n) := ha.1
  clear ha
  generalize hZ : (codes (List.replicate (n + 8) (0, 0, 0))).toArray = Z at hmk hcp
  clear hZ
  generalize hC : marked xs (-77, 7, 7) (0, 0, 0) = C at hcp
  have HC : Hid (marked xs (-77, 7, 7) (0, 0, 0) = C) := hC
  clear hC
  go_enter Try.func9, Try.ntmps9
  go_wp2
  go_loopw [5] (fun i wr => ∃ k : Nat, k ≤ 8 ∧ i = .int .i64 k ∧ Ext w wr ∧ OwnRow wr w.heap.size (codes (C k)) 46) (fun i _ => 8 - (intOf i).toNat)
  case atStart => exact ⟨0, Nat.zero_le _, rfl, (Ext.refl w).alloc _, OwnRow.alloc w _ _⟩
  case round =>
    obtain ⟨k, hk, rfl, hext, hown⟩ := hrel
    by_cases hlt : k < 8
    · have HN : Hid ((C k).set (n + k) (-77, 7, 7) = C (k + 1)) := by
        show _ = _
        rw [← HC.out, marked_set _ _ _ HL.out hlt]
      have HK : Hid (n + k < (C k).length) := by
        show _ < _
        rw [← HC.out, length_marked _ _ _ hk, HL.out]; omega
      clear hmk hcp
      go_wp2_with fail
      refine (markIns_any _).mono ?_
      rintro e w2 ⟨rfl, he2⟩
      have hown2 := hown.ext he2
      obtain ⟨g0, g1, g2⟩ := codes_get (C k) (n + k) HK.out
      have hc0 := (hown2.cell ((n + k) * 3)).trans g0
      have hc1 := (hown2.cell ((n + k) * 3 + 1)).trans g1
      have hc2 := (hown2.cell ((n + k) * 3 + 2)).trans g2
      have hf0 := hown2.frozen ((n + k) * 3)
      have hf1 := hown2.frozen ((n + k) * 3 + 1)
      have hf2 := hown2.frozen ((n + k) * 3 + 2)
      clear g0 g1 g2
      go_wp2
      go_roundw
      case rel =>
        refine ⟨k + 1, by omega, by go_num, (((hext.trans he2).setCell (Nat.le_refl _) _).setCell (Nat.le_refl _) _).setCell (Nat.le_refl _) _, ?_⟩
        rw [← HN.out, ← codes_set _ _ _ HK.out]
        exact hown2.set3 _ _ _ _
      case measure => simp [intOf]; omega
    · have hk8 : k = 8 := by omega
      subst hk8
      have HN : Hid (xs ++ List.replicate 8 (-77, 7, 7) = C 8) := by
        show _ = _
        rw [← HC.out]; simp [marked]
      go_wp2
      go_ret
      exact ⟨rfl, hext, by rw [HN.out]; exact hown⟩

end Go.Proofs.Ytkhenmpdlnhgjaa
