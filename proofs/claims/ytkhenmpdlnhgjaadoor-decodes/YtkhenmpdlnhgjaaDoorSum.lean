import Derived.Test.YtkhenmpdlnhgjaaDoorWire2
namespace Go.Proofs.YtkhenmpdlnhgjaaDoor
open Go.RowKit

def sumStep (s : Nat) (b : UInt8) : Nat := (s * 263 + b.toNat + 1) % 65521
def sumN (bs : List UInt8) : Nat := bs.foldl sumStep 1
def sumB (bs : List UInt8) : List UInt8 := [UInt8.ofNat (sumN bs % 256), UInt8.ofNat (sumN bs / 256)]
theorem sumN_lt (bs : List UInt8) : sumN bs < 65521 := by
  rcases List.eq_nil_or_concat bs with rfl | ⟨l, b, rfl⟩
  · simp [sumN]
  · simp [sumN, List.foldl_append, sumStep]; omega
theorem sumN_succ {bs : List UInt8} {k : Nat} (h : k < bs.length) : sumN (bs.take (k + 1)) = sumStep (sumN (bs.take k)) bs[k] := by
  unfold sumN; rw [List.take_succ_eq_append_getElem h, List.foldl_append]; rfl

theorem wrap_id {x : Int} (h1 : -9223372036854775808 ≤ x) (h2 : x ≤ 9223372036854775807) : wrap64 x = x := by
  unfold wrap64; omega
theorem sum_wrap (m : Nat) (b : UInt8) (hm : m < 65521) : (wrap64 (wrap64 ((m : Int) * 263 + wrap64 (b.toNat : Int)) + 1)).tmod 65521 = ((sumStep m b : Nat) : Int) := by
  have hb : b.toNat < 256 := b.toNat_lt
  rw [wrap_id (x := (b.toNat : Int)) (by omega) (by omega), wrap_id (x := (m : Int) * 263 + (b.toNat : Int)) (by omega) (by omega), wrap_id (by omega) (by omega)]
  have e : ((m : Int) * 263 + (b.toNat : Int) + 1) = ((m * 263 + b.toNat + 1 : Nat) : Int) := by omega
  rw [e]
  exact (Int.ofNat_tmod _ _).symm
/-- Bytes that lie in memory, as a string. -/
theorem conv_cells {w : World} {b o : Nat} (bs : List UInt8) (c : Nat) (h : ∀ i (hi : i < bs.length), w.cell? ⟨b, o + i, none⟩ = some (.int .u8 (bs[i].toNat : Int))) :
    (convert 44 9 (.slice (some ⟨b, o, none⟩) bs.length c)).run Tryd.prog w = .ok (.string ⟨bs.toArray⟩) w := by
  rw [run_convert_bytes_arg (P := Tryd.prog) w 44 5 Tryd.underlying44 Tryd.underlying5 b o bs.length c (bs.map fun b => (b.toNat : Int)) (by simp) (by
    intro i hi
    rw [h i hi]
    simp [List.getD, hi]) 9 Tryd.underlying9]
  congr 2
  apply ByteArray.ext
  apply Array.toList_inj.1
  rw [strOfNums_data, List.map_map]
  have e : ((fun n : Int => UInt8.ofNat n.toNat) ∘ fun b : UInt8 => (b.toNat : Int)) = id := by funext b; simp
  rw [e, List.map_id]
theorem conv1 (w : World) (a : UInt8) (x : Int) (hx : (a.toNat : Int) = x) (c : Nat) :
    (convert 44 9 (.slice (some ⟨w.heap.size, 0, none⟩) 1 c)).run Tryd.prog (w.alloc (.cells #[.int .u8 x] 5)) = .ok (.string ⟨#[a]⟩) (w.alloc (.cells #[.int .u8 x] 5)) := by
  subst hx
  refine conv_cells [a] c fun i hi => ?_
  have hr := (OwnRow.alloc w [.int .u8 (a.toNat : Int)] 5).cell i
  rw [Nat.zero_add]
  have : i = 0 := by simpa using hi
  subst this
  exact hr
theorem conv2 (w : World) (a b : UInt8) (x y : Int) (hx : (a.toNat : Int) = x) (hy : (b.toNat : Int) = y) (c : Nat) :
    (convert 44 9 (.slice (some ⟨w.heap.size, 0, none⟩) 2 c)).run Tryd.prog (w.alloc (.cells #[.int .u8 x, .int .u8 y] 5)) = .ok (.string ⟨#[a, b]⟩) (w.alloc (.cells #[.int .u8 x, .int .u8 y] 5)) := by
  subst hx; subst hy
  refine conv_cells [a, b] c fun i hi => ?_
  have hr := (OwnRow.alloc w [.int .u8 (a.toNat : Int), .int .u8 (b.toNat : Int)] 5).cell i
  rw [Nat.zero_add]
  have : i = 0 ∨ i = 1 := by simp at hi; omega
  rcases this with rfl | rfl <;> exact hr
theorem conv_buf {B : Nat} {w : World} {v : Value} {bs : List UInt8} (h : Buf B w v bs) : (convert 44 9 v).run Tryd.prog w = .ok (.string ⟨bs.toArray⟩) w := by
  have key : ∀ g cap, v = .slice (some ⟨g, 0, none⟩) bs.length cap → (convert 44 9 v).run Tryd.prog w = .ok (.string ⟨bs.toArray⟩) w := by
    rintro g cap rfl
    refine conv_cells bs cap fun i hi => ?_
    have := h.cells i (.int .u8 (bs[i].toNat : Int)) (by simp [bcells, hi])
    rw [Nat.zero_add]
    have hadd : (⟨g, 0, none⟩ : Addr).add i = ⟨g, i, none⟩ := by
      unfold Addr.add; split
      · next e => subst e; rfl
      · simp
    rw [hadd] at this
    exact this
  rcases h with h | ⟨g, fr, he, h1, h2⟩
  · rcases h.2 with ⟨rfl, h0⟩ | ⟨g, cap, cur, he, hb, hg, hn, hc, hsz, ht⟩
    · have : bs = [] := List.eq_nil_of_length_eq_zero h0
      subst this
      exact run_convert_bytes_nil (P := Tryd.prog) w 44 5 Tryd.underlying44 Tryd.underlying5 0 0 9 Tryd.underlying9
    · exact key g cap he
  · exact key g _ he

set_option maxHeartbeats 400000 in
theorem sum_any (s : ByteArray) (w : World) (hs : s.size ≤ 140737488355328) :
    Calls Tryd.prog 37 #[.string s] w fun e w' => e = .returned (.string ⟨(sumB s.data.toList).toArray⟩) ∧ Ext w w' := by
  go_enter Tryd.func37, Tryd.ntmps37
  go_wp2
  go_loop [3, 7] (fun t i => ∃ k : Nat, k ≤ s.size ∧ i = .int .i64 k ∧ t = .int .i64 (sumN (s.data.toList.take k))) (fun _ i => s.size - (intOf i).toNat)
  case atStart => exact ⟨0, Nat.zero_le _, rfl, by simp [sumN]⟩
  case round =>
    obtain ⟨k, hk, rfl, rfl⟩ := hrel
    have hb := sumN_lt (s.data.toList.take k)
    by_cases hlt : k < s.size
    · have HN := hide (sumN_succ (bs := s.data.toList) (k := k) (by simpa using hlt))
      generalize sumN (s.data.toList.take k) = m at hb HN
      go_wp2
      go_round
      case rel => exact ⟨k + 1, by omega, by go_num, by rw [HN.out]; exact congrArg (Value.int .i64) (sum_wrap m s[k] hb)⟩
      case measure => simp [intOf]; omega
    · have hkn : k = s.size := by omega
      subst hkn
      have HT : Hid (s.data.toList.take s.size = s.data.toList) := List.take_of_length_le (by simp)
      rw [HT.out] at hb ⊢
      have HSB : Hid (sumB s.data.toList = [UInt8.ofNat (sumN s.data.toList % 256), UInt8.ofNat (sumN s.data.toList / 256)]) := rfl
      generalize sumN s.data.toList = m at hb HSB ⊢
      have hcv := conv2 w (UInt8.ofNat (m % 256)) (UInt8.ofNat (m / 256)) ((m : Int) % 256) ((m : Int) / 256) (by simp) (by simp; omega) 2
      go_wp2
      go_ret
      exact ⟨by rw [HSB.out]; rfl, (Ext.refl w).alloc _⟩

end Go.Proofs.YtkhenmpdlnhgjaaDoor
