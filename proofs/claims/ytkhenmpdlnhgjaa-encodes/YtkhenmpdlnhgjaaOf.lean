import Derived.Test.YtkhenmpdlnhgjaaStill
import Derived.Test.YtkhenmpdlnhgjaaBase
namespace Go.Proofs.Ytkhenmpdlnhgjaa
open Go.RowKit

/-- The cells of a row that has its k first marks. -/
def marking (xs : List Value) (m z : Value) (k : Nat) : List Value := xs ++ List.replicate k m ++ List.replicate (8 - k) z
theorem length_marking (xs : List Value) (m z : Value) {k : Nat} (hk : k ≤ 8) : (marking xs m z k).length = xs.length + 8 := by simp [marking]; omega
theorem marking_set (xs : List Value) (m z : Value) {k n : Nat} (hn : xs.length = n) (hk : k < 8) : (marking xs m z k).set (n + k) m = marking xs m z (k + 1) := by
  unfold marking
  have e : 8 - k = (8 - (k + 1)) + 1 := by omega
  rw [e, List.replicate_succ, List.replicate_succ' (n := k)]
  rw [List.set_append_right _ _ (by simp; omega)]
  simp [hn]

theorem make_ints (n : Nat) (hn : n ≤ 17592186044416) (w : World) : (Instr.makeSlice 34 (.int .i64 ((n : Int) + 8)) (.int .i64 ((n : Int) + 8))).run Try.prog w =
    .ok (.slice (some ⟨w.heap.size, 0, none⟩) (n + 8) (n + 8)) (w.alloc (.cells (Array.replicate (n + 8) (Value.int .i64 0)) 3)) := by
  have h := run_make (P := Try.prog) w 34 3 Try.t3 (.int .i64 0) Try.underlying34 info_int (by kernel_rfl) .i64 .i64 ((n : Int) + 8) ((n : Int) + 8) (by omega) (by omega) (by rw [bytes_int]; omega) (by omega)
  rw [h]
  have e1 : ((n : Int) + 8).toNat = n + 8 := by omega
  have e2 : Try.t3.size = 1 := by kernel_rfl
  rw [e1, e2, Nat.mul_one]
  have e3 : madeCells (Value.int .i64 0).cells (n + 8) = (Array.replicate (n + 8) (Value.int .i64 0)) := by
    apply Array.toList_inj.1; show (madeCells #[Value.int .i64 0] (n + 8)).toList = _; rw [toList_madeCells_one]; simp
  rw [e3]
theorem copy_ints (a : Option Addr) (n ca : Nat) (xs : List Int) (w : World) (ha : IntsAt w a n xs) :
    (Builtin.copy_ #[34, 34] 3 #[.slice (some ⟨w.heap.size, 0, none⟩) (n + 8) (n + 8), .slice a n ca]).run Try.prog (w.alloc (.cells (Array.replicate (n + 8) (Value.int .i64 0)) 3)) =
      .ok (goInt n) (w.alloc (.cells (marking (ints xs) (.int .i64 (-77)) (.int .i64 0) 0).toArray 3)) := by
  have hl : xs.length = n := ha.1
  rw [run_copy_new w _ _ _ 3 1 a n (n + 8) (n + 8) ca _ _ (ints xs) Try.underlying34 (by rw [info_int]; kernel_rfl) (by omega) (by simp [ints, hl]) (by simp)
    (fun h0 => by
      obtain ⟨b, o, rfl, _⟩ := ha.2 0 h0
      refine ⟨b, o, rfl, fun j v hj => ?_⟩
      have hj' : j < n := by
        have := (List.getElem?_eq_some_iff.1 hj).1
        simpa [ints, hl] using this
      obtain ⟨b', o', he, hc⟩ := ha.2 j hj'
      cases he
      rw [hc]
      simp only [ints, List.getElem?_map] at hj
      rw [List.getElem?_eq_getElem (by omega)] at hj
      simp [List.getD, List.getElem?_eq_getElem (show j < xs.length by omega)] at hj ⊢
      exact hj)
    (by simp [ints, Value.oneCell'])]
  congr 4
  simp [marking, List.drop_replicate]

set_option maxHeartbeats 400000 in
theorem intsOf_any (a : Option Addr) (n ca : Nat) (xs : List Int) (w : World) (ha : IntsAt w a n xs) (hn : n ≤ 17592186044416) :
    Calls Try.prog 8 #[.slice a n ca] w fun e w' => e = .returned (.slice (some ⟨w.heap.size, 0, none⟩) n (n + 8)) ∧ w' = w.alloc (.cells (ints (xs ++ List.replicate 8 (-77))).toArray 3) := by
  have hmk := make_ints n hn w
  have hcp := copy_ints a n ca xs w ha
  have HL : Hid (xs.length = n) := ha.1
  clear ha
  generalize hC : marking (ints xs) (.int .i64 (-77)) (.int .i64 0) = C at hcp
  have HC : Hid (marking (ints xs) (.int .i64 (-77)) (.int .i64 0) = C) := hC
  clear hC
  go_enter Try.func8, Try.ntmps8
  go_wp2
  go_loopw [5] (fun i wr => ∃ k : Nat, k ≤ 8 ∧ i = .int .i64 k ∧ wr = w.alloc (.cells (C k).toArray 3)) (fun i _ => 8 - (intOf i).toNat)
  case atStart => exact ⟨0, Nat.zero_le _, rfl, rfl⟩
  case round =>
    obtain ⟨k, hk, rfl, rfl⟩ := hrel
    by_cases hlt : k < 8
    · obtain ⟨v, hv⟩ : ∃ v, (C k).toArray[n + k]? = some v := by
        rw [← HC.out]
        exact ⟨_, Array.getElem?_eq_getElem (by simp [length_marking, hk, ints, HL.out, hlt])⟩
      have HN : Hid ((C k).toArray.setIfInBounds (n + k) (.int .i64 (-77)) = (C (k + 1)).toArray) := by
        show _ = _
        rw [← HC.out, List.setIfInBounds_toArray, marking_set _ _ _ (by simp [ints, HL.out]) hlt]
      generalize (C k).toArray = D at hv HN
      go_wp2
      go_roundw
      case rel => exact ⟨k + 1, by omega, by go_num, by rw [HN.out]⟩
      case measure => simp [intOf]; omega
    · have hk8 : k = 8 := by omega
      subst hk8
      have HN : Hid (ints (xs ++ List.replicate 8 (-77)) = C 8) := by
        show _ = _
        rw [← HC.out]; simp [marking, ints]
      go_wp2
      go_ret
      exact ⟨rfl, by rw [HN.out]⟩

theorem make_strs (n : Nat) (hn : n ≤ 8796093022208) (w : World) : (Instr.makeSlice 22 (.int .i64 ((n : Int) + 8)) (.int .i64 ((n : Int) + 8))).run Try.prog w =
    .ok (.slice (some ⟨w.heap.size, 0, none⟩) (n + 8) (n + 8)) (w.alloc (.cells (Array.replicate (n + 8) (Value.string ByteArray.empty)) 9)) := by
  have h := run_make (P := Try.prog) w 22 9 Try.t9 (.string ByteArray.empty) Try.underlying22 info_string (by kernel_rfl) .i64 .i64 ((n : Int) + 8) ((n : Int) + 8) (by omega) (by omega) (by rw [bytes_string]; omega) (by omega)
  rw [h]
  have e1 : ((n : Int) + 8).toNat = n + 8 := by omega
  have e2 : Try.t9.size = 1 := by kernel_rfl
  rw [e1, e2, Nat.mul_one]
  have e3 : madeCells (Value.string ByteArray.empty).cells (n + 8) = (Array.replicate (n + 8) (Value.string ByteArray.empty)) := by
    apply Array.toList_inj.1; show (madeCells #[Value.string ByteArray.empty] (n + 8)).toList = _; rw [toList_madeCells_one]; simp
  rw [e3]
theorem copy_strs (a : Option Addr) (n ca : Nat) (xs : List ByteArray) (w : World) (ha : StrsAt w a n xs) :
    (Builtin.copy_ #[22, 22] 3 #[.slice (some ⟨w.heap.size, 0, none⟩) (n + 8) (n + 8), .slice a n ca]).run Try.prog (w.alloc (.cells (Array.replicate (n + 8) (Value.string ByteArray.empty)) 9)) =
      .ok (goInt n) (w.alloc (.cells (marking (strs xs) (.string markText) (.string ByteArray.empty) 0).toArray 9)) := by
  have hl : xs.length = n := ha.1
  rw [run_copy_new w _ _ _ 9 1 a n (n + 8) (n + 8) ca _ _ (strs xs) Try.underlying22 (by rw [info_string]; kernel_rfl) (by omega) (by simp [strs, hl]) (by simp)
    (fun h0 => by
      obtain ⟨b, o, rfl, _⟩ := ha.2 0 h0
      refine ⟨b, o, rfl, fun j v hj => ?_⟩
      have hj' : j < n := by
        have := (List.getElem?_eq_some_iff.1 hj).1
        simpa [strs, hl] using this
      obtain ⟨b', o', he, hc⟩ := ha.2 j hj'
      cases he
      rw [hc]
      simp only [strs, List.getElem?_map] at hj
      rw [List.getElem?_eq_getElem (by omega)] at hj
      simp [List.getD, List.getElem?_eq_getElem (show j < xs.length by omega)] at hj ⊢
      exact hj)
    (by simp [strs, Value.oneCell'])]
  congr 4
  simp [marking, List.drop_replicate]

set_option maxHeartbeats 400000 in
theorem textsOf_any (a : Option Addr) (n ca : Nat) (xs : List ByteArray) (w : World) (ha : StrsAt w a n xs) (hn : n ≤ 8796093022208) :
    Calls Try.prog 10 #[.slice a n ca] w fun e w' => e = .returned (.slice (some ⟨w.heap.size, 0, none⟩) n (n + 8)) ∧ w' = w.alloc (.cells (strs (xs ++ List.replicate 8 markText)).toArray 9) := by
  have hmk := make_strs n hn w
  have hcp := copy_strs a n ca xs w ha
  have HL : Hid (xs.length = n) := ha.1
  clear ha
  generalize hC : marking (strs xs) (.string markText) (.string ByteArray.empty) = C at hcp
  have HC : Hid (marking (strs xs) (.string markText) (.string ByteArray.empty) = C) := hC
  clear hC
  go_enter Try.func10, Try.ntmps10
  go_wp2
  go_loopw [5] (fun i wr => ∃ k : Nat, k ≤ 8 ∧ i = .int .i64 k ∧ wr = w.alloc (.cells (C k).toArray 9)) (fun i _ => 8 - (intOf i).toNat)
  case atStart => exact ⟨0, Nat.zero_le _, rfl, rfl⟩
  case round =>
    obtain ⟨k, hk, rfl, rfl⟩ := hrel
    by_cases hlt : k < 8
    · obtain ⟨v, hv⟩ : ∃ v, (C k).toArray[n + k]? = some v := by
        rw [← HC.out]
        exact ⟨_, Array.getElem?_eq_getElem (by simp [length_marking, hk, strs, HL.out, hlt])⟩
      have HN : Hid ((C k).toArray.setIfInBounds (n + k) (.string markText) = (C (k + 1)).toArray) := by
        show _ = _
        rw [← HC.out, List.setIfInBounds_toArray, marking_set _ _ _ (by simp [strs, HL.out]) hlt]
      generalize (C k).toArray = D at hv HN
      go_wp2
      go_roundw
      case rel => exact ⟨k + 1, by omega, by go_num, congrArg (fun c => w.alloc (.cells c 9)) HN.out⟩
      case measure => simp [intOf]; omega
    · have hk8 : k = 8 := by omega
      subst hk8
      have HN : Hid (strs (xs ++ List.replicate 8 markText) = C 8) := by
        show _ = _
        rw [← HC.out]; simp [marking, strs]
      go_wp2
      go_ret
      exact ⟨rfl, by rw [HN.out]⟩

theorem make_codes (n : Nat) (hn : n ≤ 5864062014805) (w : World) : (Instr.makeSlice 35 (.int .i64 ((n : Int) + 8)) (.int .i64 ((n : Int) + 8))).run Try.prog w =
    .ok (.slice (some ⟨w.heap.size, 0, none⟩) (n + 8) (n + 8)) (w.alloc (.cells (codes (List.replicate (n + 8) (0, 0, 0))).toArray 46)) := by
  have h := run_make (P := Try.prog) w 35 46 Try.t46 (.agg #[.int .i64 0, .int .i64 0, .int .i64 0]) Try.underlying35 info_ins (by kernel_rfl) .i64 .i64 ((n : Int) + 8) ((n : Int) + 8) (by omega) (by omega) (by rw [bytes_ins]; omega) (by omega)
  rw [h]
  have e1 : ((n : Int) + 8).toNat = n + 8 := by omega
  have e2 : Try.t46.size = 3 := by kernel_rfl
  rw [e1, e2]
  have e3 : madeCells (Value.agg #[.int .i64 0, .int .i64 0, .int .i64 0]).cells ((n + 8) * 3) = (codes (List.replicate (n + 8) (0, 0, 0))).toArray := by
    apply Array.ext_getElem?
    intro j
    by_cases hj : j < (n + 8) * 3
    · obtain ⟨h0, h1, h2⟩ := codes_get (List.replicate (n + 8) (0, 0, 0)) (j / 3) (by simp; omega)
      have hg : (List.replicate (n + 8) ((0, 0, 0) : Ins)).getD (j / 3) (0, 0, 0) = (0, 0, 0) := by simp [List.getD, List.getElem?_replicate]; split <;> rfl
      rw [hg] at h0 h1 h2
      have hm : j % 3 = 0 ∨ j % 3 = 1 ∨ j % 3 = 2 := by omega
      have hl : (madeCells (Value.agg #[.int .i64 0, .int .i64 0, .int .i64 0]).cells ((n + 8) * 3))[j]? = some (.int .i64 0) := by
        simp only [madeCells, Value.cells, Array.getElem?_map]
        rw [Array.getElem?_eq_getElem (by simpa using hj)]
        rcases hm with e | e | e <;> simp [e]
      rw [hl]
      rcases hm with e | e | e
      · rw [show j / 3 * 3 = j by omega] at h0; simp [h0]
      · rw [show j / 3 * 3 + 1 = j by omega] at h1; simp [h1]
      · rw [show j / 3 * 3 + 2 = j by omega] at h2; simp [h2]
    · rw [Array.getElem?_eq_none (by simp [size_madeCells]; omega), Array.getElem?_eq_none (by simp [length_codes]; omega)]
  rw [e3]

end Go.Proofs.Ytkhenmpdlnhgjaa
