import Derived.Test.YtkhenmpdlnhgjaaDoorBuf
namespace Go.Proofs.YtkhenmpdlnhgjaaDoor
open Go.RowKit

/-- U: a number in groups of seven bits. -/
def uB (n : Nat) : List UInt8 := if h : n < 128 then [UInt8.ofNat n] else UInt8.ofNat (128 + n % 128) :: uB (n / 128)
theorem uB_lt {n : Nat} (h : n < 128) : uB n = [UInt8.ofNat n] := by unfold uB; simp [h]
theorem uB_ge {n : Nat} (h : ¬ n < 128) : uB n = UInt8.ofNat (128 + n % 128) :: uB (n / 128) := by rw [uB]; simp [h]
theorem length_uB (k : Nat) : ∀ n, n < 128 ^ (k + 1) → (uB n).length ≤ k + 1 := by
  induction k with
  | zero => intro n h; rw [uB_lt (by simpa using h)]; simp
  | succ k ih =>
    intro n h
    by_cases hn : n < 128
    · rw [uB_lt hn]; simp
    · rw [uB_ge hn]; simp only [List.length_cons]
      have := ih (n / 128) (by rw [Nat.div_lt_iff_lt_mul (by omega)]; rw [Nat.pow_succ] at h; exact h)
      omega

theorem or128 (m : Nat) (h : m < 128) : bits .or .i64 (m : Int) 128 = ((128 + m : Nat) : Int) := by
  show IntKind.i64.wrap ((BitVec.ofInt 64 (m : Int) ||| BitVec.ofInt 64 ((128 : Nat) : Int)).toNat : Int) = _
  have e : m ||| 128 = 128 + m := by rw [Nat.or_comm]; exact nat_join 7 128 m (by decide) (by simpa using h)
  rw [BitVec.toNat_or, ofInt_u64 m (by omega), ofInt_u64 128 (by omega), IntKind.wrap_i64, e]
  omega
theorem group_byte (k : Nat) : bits .or .i64 (bits .and .i64 (k : Int) 127) 128 % 256 = ((128 + k % 128 : Nat) : Int) := by
  rw [i64_and127]
  have e : ((k : Int) % 128) = ((k % 128 : Nat) : Int) := by omega
  rw [e, or128 _ (Nat.mod_lt _ (by omega))]
  omega

set_option maxHeartbeats 400000 in
theorem addNumber_any (B : Nat) (v : Value) (bs : List UInt8) (n : Nat) (w : World) (h : Buf B w v bs) (hB : B ≤ w.heap.size) (hn : n < 9223372036854775808) (hl : bs.length + (uB n).length ≤ 140737488355328) :
    Calls Tryd.prog 34 #[v, .int .i64 n] w fun e w' => ∃ v', e = .returned v' ∧ Buf B w' v' (bs ++ uB n) ∧ Onto w v w' v' := by
  go_enter Tryd.func34, Tryd.ntmps34
  go_wp2
  go_loopw [0, 1] (fun b m wr => ∃ (k : Nat) (pre : List UInt8), m = .int .i64 k ∧ k ≤ n ∧ pre ++ uB k = uB n ∧ Buf B wr b (bs ++ pre) ∧ Onto w v wr b) (fun _ m _ => (intOf m).toNat)
  case atStart => exact ⟨n, [], rfl, Nat.le_refl _, rfl, by simpa using h, Onto.refl _ _⟩
  case round =>
    obtain ⟨k, pre, rfl, hk, hpre, hbuf, honto⟩ := hrel
    have HP := hide hpre
    clear hpre h
    have hBr : B ≤ wr.heap.size := Nat.le_trans hB honto.grown.size
    by_cases h127 : k ≤ 127
    · have HU : Hid (uB k = [UInt8.ofNat k]) := uB_lt (by omega)
      have HL : Hid ((bs ++ pre).length + [UInt8.ofNat k].length ≤ 140737488355328) := by
        show _ ≤ _
        have := congrArg List.length HP.out
        rw [HU.out, List.length_append] at this
        rw [List.length_append]; omega
      have hy : (((UInt8.ofNat k).toNat : Nat) : Int) = (k : Int) := by simp; omega
      have HS := hide (src_byteI wr (UInt8.ofNat k) k hy 1)
      clear hy
      go_wp2_with (at_builtin; refine wpList_append_onto rfl _ _ _ rfl rfl (hbuf.ext ((Ext.refl wr).alloc _)) (Nat.le_trans hBr ((Ext.refl wr).alloc _).size) _ rfl [UInt8.ofNat k] HS.out HL.out ?_; intro v2 w2 hb2 ho2)
      go_ret
      refine ⟨v2, rfl, ?_, (honto.trans (Onto.of_ext ((Ext.refl wr).alloc _))).trans ho2⟩
      rw [← HP.out, HU.out, ← List.append_assoc]
      exact hb2
    · have HU : Hid (uB k = UInt8.ofNat (128 + k % 128) :: uB (k / 128)) := uB_ge (by omega)
      have HL : Hid ((bs ++ pre).length + [UInt8.ofNat (128 + k % 128)].length ≤ 140737488355328) := by
        show _ ≤ _
        have := congrArg List.length HP.out
        rw [HU.out, List.length_append, List.length_cons] at this
        rw [List.length_append, List.length_singleton]; omega
      have hy : (((UInt8.ofNat (128 + k % 128)).toNat : Nat) : Int) = bits .or .i64 (bits .and .i64 (k : Int) 127) 128 % 256 := by rw [group_byte]; simp; omega
      have HS := hide (src_byteI wr (UInt8.ofNat (128 + k % 128)) _ hy 1)
      clear hy
      go_wp2_with (at_builtin; refine wpList_append_onto rfl _ _ _ rfl rfl (hbuf.ext ((Ext.refl wr).alloc _)) (Nat.le_trans hBr ((Ext.refl wr).alloc _).size) _ rfl [UInt8.ofNat (128 + k % 128)] HS.out HL.out ?_; intro v2 w2 hb2 ho2)
      go_roundw
      case rel =>
        refine ⟨k / 128, pre ++ [UInt8.ofNat (128 + k % 128)], by simp, Nat.le_trans (Nat.div_le_self _ _) hk, ?_, by rw [← List.append_assoc]; exact hb2, (honto.trans (Onto.of_ext ((Ext.refl wr).alloc _))).trans ho2⟩
        rw [← HP.out, HU.out]; simp
      case measure => simp [intOf]; omega

/-- X: a text with its length. -/
def xB (s : ByteArray) : List UInt8 := uB s.size ++ s.data.toList

set_option maxHeartbeats 400000 in
theorem addText_any (B : Nat) (v : Value) (bs : List UInt8) (s : ByteArray) (w : World) (h : Buf B w v bs) (hB : B ≤ w.heap.size) (hs : s.size ≤ 140737488355328) (hl : bs.length + (xB s).length ≤ 140737488355328) :
    Calls Tryd.prog 35 #[v, .string s] w fun e w' => ∃ v', e = .returned v' ∧ Buf B w' v' (bs ++ xB s) ∧ Onto w v w' v' := by
  have HX : Hid (xB s = uB s.size ++ s.data.toList) := rfl
  have HL : Hid (bs.length + (uB s.size).length + s.data.toList.length ≤ 140737488355328) := by
    show _ ≤ _
    rw [HX.out, List.length_append] at hl; omega
  clear hl
  go_enter Tryd.func35, Tryd.ntmps35
  go_wp2_with fail
  refine (addNumber_any B v bs s.size w h hB (by omega) (by have := HL.out; omega)).mono ?_
  rintro e w1 ⟨v1, rfl, hb1, ho1⟩
  have HS := hide (src_string w1 s)
  have hB1 : B ≤ w1.heap.size := Nat.le_trans hB ho1.grown.size
  go_wp2_with (at_builtin; refine wpList_append_onto rfl _ _ _ rfl rfl hb1 hB1 _ rfl s.data.toList HS.out (by rw [List.length_append]; exact HL.out) ?_; intro v2 w2 hb2 ho2)
  go_ret
  refine ⟨v2, rfl, ?_, ho1.trans ho2⟩
  rw [HX.out, ← List.append_assoc]
  exact hb2

end Go.Proofs.YtkhenmpdlnhgjaaDoor
