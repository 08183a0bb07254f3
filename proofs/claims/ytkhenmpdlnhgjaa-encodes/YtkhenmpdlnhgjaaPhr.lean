import Derived.Test.YtkhenmpdlnhgjaaOfCode
import Derived.Deep.RegionHeld3
namespace Go.Proofs.Ytkhenmpdlnhgjaa
open Go.RowKit

theorem make_phrases (n : Nat) (hn : n ≤ 2199023255552) (w : World) : (Instr.makeSlice 23 (.int .i64 ((n : Int) + 8)) (.int .i64 ((n : Int) + 8))).run Try.prog w =
    .ok (.slice (some ⟨w.heap.size, 0, none⟩) (n + 8) (n + 8)) (w.alloc (.cells (trips (List.replicate (n + 8) zero3)).toArray 37)) := by
  have h := run_make (P := Try.prog) w 23 37 Try.t37 (.agg #[.string ByteArray.empty, .slice none 0 0, .slice none 0 0]) Try.underlying23 info_phrase (by kernel_rfl) .i64 .i64 ((n : Int) + 8) ((n : Int) + 8) (by omega) (by omega) (by rw [bytes_phrase]; omega) (by omega)
  rw [h]
  have e1 : ((n : Int) + 8).toNat = n + 8 := by omega
  have e2 : Try.t37.size = 3 := by kernel_rfl
  rw [e1, e2]
  have e3 : madeCells (Value.agg #[.string ByteArray.empty, .slice none 0 0, .slice none 0 0]).cells ((n + 8) * 3) = (trips (List.replicate (n + 8) zero3)).toArray := by
    apply Array.ext_getElem?
    intro j
    by_cases hj : j < (n + 8) * 3
    · obtain ⟨h0, h1, h2⟩ := trips_get (List.replicate (n + 8) zero3) (j / 3) (by simp; omega)
      have hg : (List.replicate (n + 8) zero3).getD (j / 3) zero3 = zero3 := by simp [List.getD, List.getElem?_replicate]; split <;> rfl
      rw [hg] at h0 h1 h2
      have hm : j % 3 = 0 ∨ j % 3 = 1 ∨ j % 3 = 2 := by omega
      simp only [madeCells, Value.cells, Array.getElem?_map]
      rw [Array.getElem?_eq_getElem (by simpa using hj)]
      rcases hm with e | e | e
      · rw [show j / 3 * 3 = j by omega] at h0; simp only [List.getElem?_toArray, h0]; simp [e, zero3]
      · rw [show j / 3 * 3 + 1 = j by omega] at h1; simp only [List.getElem?_toArray, h1]; simp [e, zero3]
      · rw [show j / 3 * 3 + 2 = j by omega] at h2; simp only [List.getElem?_toArray, h2]; simp [e, zero3]
    · rw [Array.getElem?_eq_none (by simp [size_madeCells]; omega), Array.getElem?_eq_none (by simp [length_trips]; omega)]
  rw [e3]

end Go.Proofs.Ytkhenmpdlnhgjaa
