import Derived.Test.YtkhenmpdlnhgjaaDoorRd
namespace Go.Proofs.YtkhenmpdlnhgjaaDoor
open Go.RowKit

/-- What comes of reading: it has read something, or it gives up. -/
def Outc {α : Type} (o : Option α) (yes : α → Prop) (no : Prop) : Prop := match o with | some x => yes x | none => no
theorem outc_yes {α : Type} {o : Option α} {yes : α → Prop} {no : Prop} {x : α} (h : o = some x) (hy : yes x) : Outc o yes no := by subst h; exact hy
theorem outc_no {α : Type} {o : Option α} {yes : α → Prop} {no : Prop} (h : o = none) (hn : no) : Outc o yes no := by subst h; exact hn
theorem Outc.yes {α : Type} {o : Option α} {yes : α → Prop} {no : Prop} (h : Outc o yes no) {x : α} (e : o = some x) : yes x := by subst e; exact h
theorem Outc.no {α : Type} {o : Option α} {yes : α → Prop} {no : Prop} (h : Outc o yes no) (e : o = none) : no := by subst e; exact h

theorem or_add (a b s : Nat) (ha : a < 2 ^ s) (hb : b % 2 ^ s = 0) (h : a + b < 9223372036854775808) : bits .or .i64 (a : Int) (b : Int) = ((a + b : Nat) : Int) := by
  show IntKind.i64.wrap ((BitVec.ofInt 64 (a : Int) ||| BitVec.ofInt 64 (b : Int)).toNat : Int) = _
  have e : a ||| b = a + b := by rw [Nat.or_comm, nat_join s b a hb ha, Nat.add_comm]
  rw [BitVec.toNat_or, ofInt_u64 a (by omega), ofInt_u64 b (by omega), IntKind.wrap_i64, e]
  omega

theorem grpV (i m bn : Nat) (hi : i < 5) (hm : m < 128 ^ i) : bits .or .i64 (m : Int) (wrap64 (bits .and .i64 (bn : Int) 127 * 2 ^ (7 * i))) = ((m + bn % 128 * 128 ^ i : Nat) : Int) := by
  rw [i64_and127]
  have hc : 128 ^ i = 2 ^ (7 * i) := by rw [Nat.pow_mul]
  have hci : (2 : Int) ^ (7 * i) = ((128 ^ i : Nat) : Int) := by rw [hc]; simp
  have hle : 128 ^ i ≤ 128 ^ 4 := Nat.pow_le_pow_right (by omega) (by omega)
  rw [hci]
  generalize 128 ^ i = c at hc hm hle ⊢
  have hle' : c ≤ 268435456 := by simpa using hle
  clear hle
  have hlt : bn % 128 < 128 := Nat.mod_lt _ (by omega)
  have hmul : bn % 128 * c ≤ 127 * c := Nat.mul_le_mul_right _ (by omega)
  have e : ((bn : Int) % 128) * (c : Int) = ((bn % 128 * c : Nat) : Int) := by
    rw [Int.natCast_mul]; congr 1
  rw [e, wrap_id (by omega) (by omega), or_add m (bn % 128 * c) (7 * i) (by omega) (by rw [hc]; exact Nat.mul_mod_left _ _) (by omega)]
theorem next_lt (i m bn : Nat) (hm : m < 128 ^ i) : m + bn % 128 * 128 ^ i < 128 ^ (i + 1) := by
  have hlt : bn % 128 < 128 := Nat.mod_lt _ (by omega)
  have hmul : bn % 128 * 128 ^ i ≤ 127 * 128 ^ i := Nat.mul_le_mul_right _ (by omega)
  rw [Nat.pow_succ]
  omega

theorem octet_any (g : Nat) (b : UInt8) (bn : Nat) (bs : List UInt8) (w : World) (hb : b.toNat = bn) (h : RD w g (b :: bs)) (hl : (b :: bs).length ≤ 140737488355328) :
    Calls Tryd.prog 59 #[.pointer (some ⟨g, 0, none⟩)] w fun e w' => e = .returned (.int .i64 bn) ∧ RD w' g bs ∧ KG g w w' := by
  subst hb; exact octet_yes g b bs w h hl

set_option maxRecDepth 100000 in
set_option maxHeartbeats 4000000 in
theorem number_any (g : Nat) (bs : List UInt8) (et : TypeId) (ev : Value) (w : World) (h : RD w g bs) (hl : bs.length ≤ 140737488355328) (hg : 0 < g) (hE : w.cell? ⟨0, 0, none⟩ = some (.iface et ev)) :
    Calls Tryd.prog 56 #[.pointer (some ⟨g, 0, none⟩)] w fun e w' =>
      Outc (pNum bs) (fun x => e = .returned (.int .i64 x.1) ∧ RD w' g x.2 ∧ KG g w w') (e = Gave et ev ∧ KG g w w') := by
  go_enter Tryd.func56, Tryd.ntmps56
  go_wp2_with fail
  go_loopw [3, 4] (fun n s wr => ∃ (i m : Nat) (r : List UInt8), i ≤ 5 ∧ m < 128 ^ i ∧ n = .int .i64 m ∧ s = .int .i64 ((7 * i : Nat) : Int) ∧ r.length ≤ bs.length ∧ RD wr g r ∧ KG g w wr ∧ numF (5 - i) i m r = pNum bs) (fun _ s _ => 35 - (intOf s).toNat)
  case atStart => exact ⟨0, 0, bs, by omega, by simp, rfl, rfl, Nat.le_refl _, h, KG.refl _ _, rfl⟩
  case round =>
    obtain ⟨i, m, r, hi, hm, rfl, rfl, hrl, hrd, hk, hP⟩ := hrel
    have HP := hide hP
    have hE' := hk.cell hE (by omega)
    clear hP h hE
    by_cases h5 : i < 5
    · cases r with
      | nil =>
        have HN : Hid (pNum bs = none) := by
          show _ = _
          rw [← HP.out, show 5 - i = (4 - i) + 1 by omega]; rfl
        go_wp2_with fail
        refine (octet_no g et ev wr hrd hE').mono ?_
        rintro e w1 ⟨rfl, hk1⟩
        exact ⟨rfl, outc_no HN.out ⟨rfl, hk.trans hk1⟩⟩
      | cons b r =>
        have hnext : numF (5 - i) i m (b :: r) = if 127 < b.toNat then numF (5 - (i + 1)) (i + 1) (m + b.toNat % 128 * 128 ^ i) r else if 2147483647 < m + b.toNat * 128 ^ i ∨ (b.toNat = 0 ∧ 0 < i) then none else some (m + b.toNat * 128 ^ i, r) := by
          rw [show 5 - i = (5 - (i + 1)) + 1 by omega]; rfl
        have HX := hide (HP.out.symm.trans hnext)
        clear hnext HP
        have hb := b.toNat_lt
        have hrl' : r.length + 1 ≤ bs.length := by simpa using hrl
        generalize hbn : b.toNat = bn at HX hb
        have hv := grpV i m bn h5 hm
        have hmx := next_lt i m bn hm
        generalize hvv : m + bn % 128 * 128 ^ i = v at hv hmx
        by_cases h127 : 127 < bn
        · have HA : Hid (numF (5 - (i + 1)) (i + 1) v r = pNum bs) := by
            show _ = _
            rw [HX.out, if_pos h127, hvv]
          clear HX hvv
          go_wp2_with fail
          refine (octet_any g b bn r wr hbn hrd (by omega)).mono ?_
          rintro e w1 ⟨rfl, hrd1, hk1⟩
          go_wp2_with fail
          go_roundw
          case rel => exact ⟨i + 1, v, r, by omega, hmx, rfl, congrArg (Value.int .i64) (by omega), by omega, hrd1, hk.trans hk1, HA.out⟩
          case measure => simp [intOf]; omega
        · have hvb : m + bn * 128 ^ i = v := by rw [← hvv, Nat.mod_eq_of_lt (by omega)]
          have HX2 : Hid (pNum bs = if 2147483647 < v ∨ (bn = 0 ∧ 0 < i) then none else some (v, r)) := by
            show _ = _
            rw [HX.out, if_neg h127, hvb]
          have hnot : ¬ (127 : Int) < bn := by omega
          clear HX hvv hvb
          by_cases hbig : 2147483647 < v
          · have HN : Hid (pNum bs = none) := by show _ = _; rw [HX2.out, if_pos (.inl hbig)]
            have hbig' : (2147483647 : Int) < v := by omega
            clear hbig
            go_wp2_with fail
            refine (octet_any g b bn r wr hbn hrd (by omega)).mono ?_
            rintro e w1 ⟨rfl, hrd1, hk1⟩
            have hE1 := hk1.cell hE' (by omega)
            go_wp2_with fail
            exact ⟨rfl, outc_no HN.out ⟨rfl, hk.trans hk1⟩⟩
          · have hnb : ¬ (2147483647 : Int) < v := by omega
            by_cases hb0 : bn = 0
            · have hbz : ((bn : Int) == 0) = true := by simp [hb0]
              by_cases hi0 : 0 < i
              · have HN : Hid (pNum bs = none) := by show _ = _; rw [HX2.out, if_pos (.inr ⟨hb0, hi0⟩)]
                have hsh : (0 : Int) < 7 * (i : Int) := by omega
                clear hb0
                go_wp2_with fail
                refine (octet_any g b bn r wr hbn hrd (by omega)).mono ?_
                rintro e w1 ⟨rfl, hrd1, hk1⟩
                have hE1 := hk1.cell hE' (by omega)
                go_wp2_with fail
                exact ⟨rfl, outc_no HN.out ⟨rfl, hk.trans hk1⟩⟩
              · have HN : Hid (pNum bs = some (v, r)) := by show _ = _; rw [HX2.out, if_neg (by omega)]
                have hsh : decide ((0 : Int) < 7 * (i : Int)) = false := decide_eq_false (by omega)
                clear hb0
                go_wp2_with fail
                refine (octet_any g b bn r wr hbn hrd (by omega)).mono ?_
                rintro e w1 ⟨rfl, hrd1, hk1⟩
                go_wp2_with fail
                go_ret
                exact outc_yes HN.out ⟨rfl, hrd1, hk.trans hk1⟩
            · have HN : Hid (pNum bs = some (v, r)) := by show _ = _; rw [HX2.out, if_neg (by omega)]
              have hbz : ((bn : Int) == 0) = false := by rw [beq_eq_false_iff_ne]; omega
              clear hb0
              go_wp2_with fail
              refine (octet_any g b bn r wr hbn hrd (by omega)).mono ?_
              rintro e w1 ⟨rfl, hrd1, hk1⟩
              go_wp2_with fail
              go_ret
              exact outc_yes HN.out ⟨rfl, hrd1, hk.trans hk1⟩
    · have hi5 : i = 5 := by omega
      subst hi5
      have HN : Hid (pNum bs = none) := by show _ = _; rw [← HP.out]; rfl
      go_wp2_with fail
      exact ⟨rfl, outc_no HN.out ⟨rfl, hk⟩⟩

end Go.Proofs.YtkhenmpdlnhgjaaDoor
