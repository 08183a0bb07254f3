import Derived.Test.YtdegbkgchnbikaaOf
namespace Go.Proofs.Ytdegbkgchnbikaa
open Go.RowKit

/-- A list that has its k first marks. -/
def marked {α : Type} (xs : List α) (m z : α) (k : Nat) : List α := xs ++ List.replicate k m ++ List.replicate (8 - k) z
theorem length_marked {α : Type} (xs : List α) (m z : α) {k : Nat} (hk : k ≤ 8) : (marked xs m z k).length = xs.length + 8 := by simp [marked]; omega
theorem marked_set {α : Type} (xs : List α) (m z : α) {k n : Nat} (hn : xs.length = n) (hk : k < 8) : (marked xs m z k).set (n + k) m = marked xs m z (k + 1) := by
  unfold marked
  have e : 8 - k = (8 - (k + 1)) + 1 := by omega
  rw [e, List.replicate_succ, List.replicate_succ' (n := k)]
  rw [List.set_append_right _ _ (by simp; omega)]
  simp [hn]

theorem codes_set (l : List Ins) (i : Nat) (x : Ins) (hi : i < l.length) : (((codes l).set (i * 3) (.int .i64 x.1)).set (i * 3 + 1) (.int .i64 x.2.1)).set (i * 3 + 2) (.int .i64 x.2.2) = codes (l.set i x) := by
  apply List.ext_getElem?
  intro j
  have hlen : (codes l).length = l.length * 3 := length_codes l
  by_cases hj : j < l.length * 3
  · obtain ⟨h0, h1, h2⟩ := codes_get (l.set i x) (j / 3) (by simp; omega)
    obtain ⟨g0, g1, g2⟩ := codes_get l (j / 3) (by omega)
    have hm : j = j / 3 * 3 ∨ j = j / 3 * 3 + 1 ∨ j = j / 3 * 3 + 2 := by omega
    generalize hq : j / 3 = q at *
    by_cases hqi : q = i
    · subst hqi
      have hg : (l.set q x).getD q (0, 0, 0) = x := by simp [List.getD, hi]
      rw [hg] at h0 h1 h2
      rcases hm with rfl | rfl | rfl
      · rw [h0, List.getElem?_set_ne (by omega), List.getElem?_set_ne (by omega), List.getElem?_set_self (by omega)]
      · rw [h1, List.getElem?_set_ne (by omega), List.getElem?_set_self (by simp; omega)]
      · rw [h2, List.getElem?_set_self (by simp; omega)]
    · have hg : (l.set i x).getD q (0, 0, 0) = l.getD q (0, 0, 0) := by simp [List.getD, List.getElem?_set_ne (show i ≠ q from fun e => hqi e.symm)]
      rw [hg] at h0 h1 h2
      rw [List.getElem?_set_ne (by omega), List.getElem?_set_ne (by omega), List.getElem?_set_ne (by omega)]
      rcases hm with rfl | rfl | rfl
      · rw [h0, g0]
      · rw [h1, g1]
      · rw [h2, g2]
  · rw [List.getElem?_eq_none (by simp; omega), List.getElem?_eq_none (by rw [length_codes]; simp; omega)]

theorem copy_codes (a : Option Addr) (n ca : Nat) (xs : List Ins) (w : World) (ha : CodeAt w a n xs) :
    (Builtin.copy_ #[35, 35] 3 #[.slice (some ⟨w.heap.size, 0, none⟩) (n + 8) (n + 8), .slice a n ca]).run Try.prog (w.alloc (.cells (codes (List.replicate (n + 8) (0, 0, 0))).toArray 46)) =
      .ok (goInt n) (w.alloc (.cells (codes (marked xs (-77, 7, 7) (0, 0, 0) 0)).toArray 46)) := by
  have hl : xs.length = n := ha.1
  rw [run_copy_new w _ _ _ 46 3 a n (n + 8) (n + 8) ca _ _ (codes xs) Try.underlying35 (by rw [info_ins]; kernel_rfl) (by omega) (by rw [length_codes, hl]) (by simp [length_codes]; omega)
    (fun h0 => by
      obtain ⟨b, o, rfl, _⟩ := ha.2 0 h0
      refine ⟨b, o, rfl, fun j v hj => ?_⟩
      obtain ⟨i, hi, hor⟩ := codes_cell hj
      obtain ⟨b', o', he, hc0, hc1, hc2⟩ := ha.2 i (by omega)
      cases he
      rcases hor with ⟨rfl, rfl⟩ | ⟨rfl, rfl⟩ | ⟨rfl, rfl⟩
      · exact hc0
      · exact hc1
      · exact hc2)
    (fun v hv => by
      obtain ⟨x, _, hx⟩ := List.mem_flatMap.1 hv
      simp at hx
      rcases hx with rfl | rfl | rfl <;> rfl)]
  congr 4
  have e : List.replicate (n + 8) ((0, 0, 0) : Ins) = List.replicate n (0, 0, 0) ++ List.replicate 8 (0, 0, 0) := by rw [List.replicate_append_replicate]
  rw [e, codes_append, List.drop_left' (by rw [length_codes]; simp)]
  simp [marked, codes_append]

set_option maxHeartbeats 400000 in
theorem codeOf_any (a : Option Addr) (n ca : Nat) (xs : List Ins) (w : World) (ha : CodeAt w a n xs) (hn : n ≤ 5864062014805) :
    Calls Try.prog 9 #[.slice a n ca] w fun e w' => e = .returned (.slice (some ⟨w.heap.size, 0, none⟩) n (n + 8)) ∧ Ext w w' ∧ OwnRow w' w.heap.size (codes (xs ++ List.replicate 8 (-77, 7, 7))) 46 := by
  have hmk := make_codes n hn w
  have hcp := copy_codes a n ca xs w ha
  have HL : Hid (xs.length = n) := ha.1
  clear ha
  generalize hZ : (codes (List.replicate (n + 8) (0, 0, 0))).toArray = Z at hmk hcp
  clear hZ
  generalize hC : marked xs (-77, 7, 7) (0, 0, 0) = C at hcp
  have HC : Hid (marked xs (-77, 7, 7) (0, 0, 0) = C) := hC
  clear hC
  go_enter Try.func9, Try.ntmps9
  go_wp2
  go_loopw [5] (fun i wr => ∃ k : Nat, k ≤ 8 ∧ i = .int .i64 k ∧ Ext w wr ∧ OwnRow wr w.heap.size (codes (C k)) 46) (fun i _ => 8 - (intOf i).toNat)
  case atStart => exact ⟨0, Nat.zero_le _, rfl, (Ext.refl w).alloc _, OwnRow.alloc w _ _⟩
  case round =>
    obtain ⟨k, hk, rfl, hext, hown⟩ := hrel
    by_cases hlt : k < 8
    · have HN : Hid ((C k).set (n + k) (-77, 7, 7) = C (k + 1)) := by
        show _ = _
        rw [← HC.out, marked_set _ _ _ HL.out hlt]
      have HK : Hid (n + k < (C k).length) := by
        show _ < _
        rw [← HC.out, length_marked _ _ _ hk, HL.out]; omega
      clear hmk hcp
      go_wp2_with fail
      refine (markIns_any _).mono ?_
      rintro e w2 ⟨rfl, he2⟩
      have hown2 := hown.ext he2
      obtain ⟨g0, g1, g2⟩ := codes_get (C k) (n + k) HK.out
      have hc0 := (hown2.cell ((n + k) * 3)).trans g0
      have hc1 := (hown2.cell ((n + k) * 3 + 1)).trans g1
      have hc2 := (hown2.cell ((n + k) * 3 + 2)).trans g2
      have hf0 := hown2.frozen ((n + k) * 3)
      have hf1 := hown2.frozen ((n + k) * 3 + 1)
      have hf2 := hown2.frozen ((n + k) * 3 + 2)
      clear g0 g1 g2
      go_wp2
      go_roundw
      case rel =>
        refine ⟨k + 1, by omega, by go_num, (((hext.trans he2).setCell (Nat.le_refl _) _).setCell (Nat.le_refl _) _).setCell (Nat.le_refl _) _, ?_⟩
        rw [← HN.out, ← codes_set _ _ _ HK.out]
        exact hown2.set3 _ _ _ _
      case measure => simp [intOf]; omega
    · have hk8 : k = 8 := by omega
      subst hk8
      have HN : Hid (xs ++ List.replicate 8 (-77, 7, 7) = C 8) := by
        show _ = _
        rw [← HC.out]; simp [marked]
      go_wp2
      go_ret
      exact ⟨rfl, hext, by rw [HN.out]; exact hown⟩

end Go.Proofs.Ytdegbkgchnbikaa
