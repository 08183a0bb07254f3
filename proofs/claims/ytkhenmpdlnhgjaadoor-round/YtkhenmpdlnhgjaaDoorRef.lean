import Derived.Test.YtkhenmpdlnhgjaaDoorWrite
namespace Go.Proofs.YtkhenmpdlnhgjaaDoor
open Go.RowKit

theorem conv_at {w : World} {b c : Nat} (x : UInt8) (y : Int) (hy : (x.toNat : Int) = y) (h : w.cell? ⟨b, 0, none⟩ = some (.int .u8 y)) :
    (convert 44 9 (.slice (some ⟨b, 0, none⟩) 1 c)).run Tryd.prog w = .ok (.string ⟨#[x]⟩) w := by
  subst hy
  refine conv_cells [x] c fun i hi => ?_
  have : i = 0 := by simpa using hi
  subst this
  exact h
theorem ext_cells {w w' : World} (h : Ext w w') : ∀ b o, b < w.heap.size → w'.cell? ⟨b, o, none⟩ = w.cell? ⟨b, o, none⟩ := fun b o hb => Below.cell h (p := ⟨b, o, none⟩) hb
theorem ret_str {a b : ByteArray} (h : a = b) : Ending.returned (.string a) = .returned (.string b) := by rw [h]

set_option maxHeartbeats 400000 in
theorem U_small (n : Nat) (w : World) (h : n < 128) : Calls Tryd.prog 23 #[.int .i64 n] w fun e w' => e = .returned (.string ⟨(uB n).toArray⟩) ∧ Ext w w' := by
  have HU := hide (uB_lt h)
  have hcv := conv1 w (UInt8.ofNat n) n (by simp; omega) 1
  have h' : (n : Int) < 128 := by omega
  go_enter Tryd.func23, Tryd.ntmps23
  go_wp2
  go_ret
  exact ⟨by rw [HU.out]; rfl, (Ext.refl w).alloc _⟩

theorem group_raw (n : Nat) : (((UInt8.ofNat (128 + n % 128)).toNat : Nat) : Int) = IntKind.u8.wrap (IntKind.i64.wrap (128 + (n : Int).tmod 128)) := by
  have e : (n : Int).tmod 128 = ((n % 128 : Nat) : Int) := (Int.ofNat_tmod n 128).symm
  rw [IntKind.wrap_u8', IntKind.wrap_i64, e]
  simp
  omega
set_option maxHeartbeats 400000 in
theorem U_step (n : Nat) (w : World) (h : ¬ n < 128) (hn : n < 9223372036854775808) (ih : ∀ w, Calls Tryd.prog 23 #[.int .i64 ((n / 128 : Nat) : Int)] w fun e w' => e = .returned (.string ⟨(uB (n / 128)).toArray⟩) ∧ Ext w w') :
    Calls Tryd.prog 23 #[.int .i64 n] w fun e w' => e = .returned (.string ⟨(uB n).toArray⟩) ∧ Ext w w' := by
  have HU := hide (uB_ge h)
  have HI := hide ih
  have hy : (((UInt8.ofNat (128 + n % 128)).toNat : Nat) : Int) = IntKind.u8.wrap (IntKind.i64.wrap (128 + (n : Int).tmod 128)) := group_raw n
  generalize UInt8.ofNat (128 + n % 128) = x at hy HU
  have hcv := fun (w : World) (b : Nat) (hc : w.cell? ⟨b, 0, none⟩ = some (.int .u8 (IntKind.u8.wrap (IntKind.i64.wrap (128 + (n : Int).tmod 128))))) => conv_at (c := 1) x _ hy hc
  have hsm : (uB (n / 128)).length ≤ 9 := length_uB 8 (n / 128) (by rw [Nat.div_lt_iff_lt_mul (by omega)]; omega)
  have h' : ¬ (n : Int) < 128 := by omega
  clear ih hy
  have HQ : Hid (IntKind.i64.wrap ((n : Int) / 128) = ((n / 128 : Nat) : Int)) := by show _ = _; rw [IntKind.wrap_i64]; omega
  have hsm2 : ¬ 9223372036854775807 < 1 + (uB (n / 128)).length := by omega
  generalize uB (n / 128) = rest at HU HI hsm hsm2
  go_enter Tryd.func23, Tryd.ntmps23
  go_wp2_with fail
  go_region_held (fun w' => Ext w w') (first | exact (Ext.refl w).drew | assumption | exact Ext.alloc (by assumption) _ | exact Ext.trans (by assumption) (by assumption) | fail) (first
    | (go_at_call 23; rw [HQ.out]; refine (HI.out _).mono ?_; rintro e wA ⟨rfl, heA⟩; have hz := ext_cells heA))
  all_goals
    rename_i hfin
    go_wp2
    go_ret
    exact ⟨ret_str (by rw [HU.out]; exact ba_append [_] rest), hfin⟩

theorem U_any (n : Nat) : ∀ (w : World) (_ : n < 9223372036854775808), Calls Tryd.prog 23 #[.int .i64 n] w fun e w' => e = .returned (.string ⟨(uB n).toArray⟩) ∧ Ext w w' := by
  induction n using Nat.strongRecOn with
  | ind n ih =>
    intro w hn
    by_cases h : n < 128
    · exact U_small n w h
    · exact U_step n w h hn (fun w => ih (n / 128) (by omega) w (by omega))

set_option maxHeartbeats 400000 in
theorem X_any (s : ByteArray) (w : World) (hs : s.size ≤ 140737488355328) : Calls Tryd.prog 24 #[.string s] w fun e w' => e = .returned (.string ⟨(xB s).toArray⟩) ∧ Ext w w' := by
  have hsm : (uB s.size).length ≤ 9 := length_uB 8 s.size (by omega)
  have hsm2 : ¬ 9223372036854775807 < (uB s.size).length + s.size := by omega
  have HX : Hid (xB s = uB s.size ++ s.data.toList) := rfl
  go_enter Tryd.func24, Tryd.ntmps24
  go_wp2_with fail
  refine (U_any s.size _ (by omega)).mono ?_
  rintro e w1 ⟨rfl, he1⟩
  generalize uB s.size = u at HX hsm hsm2
  go_wp2
  go_ret
  exact ⟨ret_str (by rw [HX.out, ← ba_append]), he1⟩

set_option maxHeartbeats 400000 in
theorem refSum_any (s : ByteArray) (w : World) (hs : s.size ≤ 140737488355328) :
    Calls Tryd.prog 25 #[.string s] w fun e w' => e = .returned (.string ⟨(sumB s.data.toList).toArray⟩) ∧ Ext w w' := by
  go_enter Tryd.func25, Tryd.ntmps25
  go_wp2
  go_loop [3, 4] (fun t i => ∃ k : Nat, k ≤ s.size ∧ i = .int .i64 k ∧ t = .int .i64 (sumN (s.data.toList.take k))) (fun _ i => s.size - (intOf i).toNat)
  case atStart => exact ⟨0, Nat.zero_le _, rfl, by simp [sumN]⟩
  case round =>
    obtain ⟨k, hk, rfl, rfl⟩ := hrel
    have hb := sumN_lt (s.data.toList.take k)
    by_cases hlt : k < s.size
    · have HN := hide (sumN_succ (bs := s.data.toList) (k := k) (by simpa using hlt))
      generalize sumN (s.data.toList.take k) = m at hb HN
      go_wp2
      go_round
      case rel => exact ⟨k + 1, by omega, by go_num, by rw [HN.out]; rw [Int.mul_comm 263]; exact congrArg (Value.int .i64) (sum_wrap m s[k] hb)⟩
      case measure => simp [intOf]; omega
    · have hkn : k = s.size := by omega
      subst hkn
      have HT : Hid (s.data.toList.take s.size = s.data.toList) := List.take_of_length_le (by simp)
      rw [HT.out] at hb ⊢
      have HSB : Hid (sumB s.data.toList = [UInt8.ofNat (sumN s.data.toList % 256), UInt8.ofNat (sumN s.data.toList / 256)]) := rfl
      generalize sumN s.data.toList = m at hb HSB ⊢
      have hcv := conv2 w (UInt8.ofNat (m % 256)) (UInt8.ofNat (m / 256)) ((m : Int) % 256) ((m : Int) / 256) (by simp) (by simp; omega) 2
      go_wp2
      go_ret
      exact ⟨by rw [HSB.out]; rfl, (Ext.refl w).alloc _⟩


end Go.Proofs.YtkhenmpdlnhgjaaDoor
