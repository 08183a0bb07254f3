import Derived.Test.YtkhenmpdlnhgjaaDoorSame
namespace Go.Proofs.YtkhenmpdlnhgjaaDoor
open Go.RowKit

theorem ins_ne {x0 x1 x2 y0 y1 y2 : Int} (h : ¬ (x0, x1, x2) = (y0, y1, y2)) : (x0 == y0) = false ∨ (x0 = y0 ∧ (x1 == y1) = false) ∨ (x0 = y0 ∧ x1 = y1 ∧ (x2 == y2) = false) := by
  simp only [beq_eq_false_iff_ne]
  simp only [Prod.mk.injEq] at h
  omega

theorem toList_inj {x y : ByteArray} : x.toList = y.toList ↔ x = y := by
  rw [ByteArray.toList_eq, ByteArray.toList_eq, Array.toList_inj]
  exact ByteArray.ext_iff.symm

set_option maxHeartbeats 400000 in
theorem sameTexts_any (a b : Option Addr) (n m ca cb : Nat) (xs ys : List ByteArray) (w : World) (ha : StrsAt w a n xs) (hb : StrsAt w b m ys) (hx : n ≤ maxLen) (hy : m ≤ maxLen) :
    Calls Tryd.prog 29 #[.slice a n ca, .slice b m cb] w fun e w' => e = .returned (.bool (decide (xs = ys))) ∧ Ext w w' := by
  unfold maxLen at hx hy
  by_cases hl : n = m
  · subst hl
    go_enter Tryd.func29, Tryd.ntmps29
    go_wp2
    go_loopw [5] (fun i wr => ∃ k : Nat, k ≤ n ∧ i = .int .i64 k ∧ agree ByteArray.empty xs ys k ∧ Ext w wr) (fun i _ => n - (intOf i).toNat)
    case atStart => exact ⟨0, Nat.zero_le _, rfl, fun i hi => absurd hi (Nat.not_lt_zero _), Ext.refl w⟩
    case round =>
      obtain ⟨k, hk, rfl, hag, hext⟩ := hrel
      by_cases hlt : k < n
      · obtain ⟨ba, oa, rfl, hca⟩ := (ha.ext hext).2 k hlt
        obtain ⟨bb, ob, rfl, hcb⟩ := (hb.ext hext).2 k hlt
        by_cases he : xs.getD k ByteArray.empty = ys.getD k ByteArray.empty
        · have HA : Hid (agree ByteArray.empty xs ys (k + 1)) := agree_succ hag he
          rw [he] at hca
          generalize ys.getD k ByteArray.empty = y at hca hcb
          clear he hag
          go_wp2
          go_quiet (fail)
          go_wp2
          go_roundw
          case rel => exact ⟨k + 1, by omega, by go_num, HA.out, hext.trans (Ext.drewN _ _)⟩
          case measure => simp [intOf]; omega
        · have HB : Hid (decide (xs = ys) = false) := beq_false_of he
          generalize xs.getD k ByteArray.empty = x at hca he
          generalize ys.getD k ByteArray.empty = y at hcb he
          have he' : (!x.toList == y.toList) = true := by simp [toList_inj, he]
          clear he hag
          go_wp2
          go_quiet (fail)
          go_wp2
          go_ret
          exact ⟨ret_bool HB.out.symm, hext.trans (Ext.drewN _ _)⟩
      · have hkn : k = n := by omega
        subst hkn
        have HB : Hid (decide (xs = ys) = true) := decide_eq_true (eq_of_agree hag ha.1 hb.1)
        clear hag
        go_wp2
        go_ret
        exact ⟨ret_bool HB.out.symm, hext⟩
  · have HB : Hid (decide (xs = ys) = false) := beq_false_len (by rw [ha.1, hb.1]; exact hl)
    have hl' : ((n : Int) != m) = true := by simp; omega
    go_enter Tryd.func29, Tryd.ntmps29
    go_wp2
    go_ret
    exact ⟨ret_bool HB.out.symm, Ext.refl w⟩

set_option maxHeartbeats 400000 in
theorem sameCode_any (a b : Option Addr) (n m ca cb : Nat) (xs ys : List Ins) (w : World) (ha : CodeAt w a n xs) (hb : CodeAt w b m ys) (hx : n ≤ maxLen) (hy : m ≤ maxLen) :
    Calls Tryd.prog 31 #[.slice a n ca, .slice b m cb] w fun e w' => e = .returned (.bool (decide (xs = ys))) ∧ Ext w w' := by
  unfold maxLen at hx hy
  by_cases hl : n = m
  · subst hl
    go_enter Tryd.func31, Tryd.ntmps31
    go_wp2
    go_loopw [5] (fun i wr => ∃ k : Nat, k ≤ n ∧ i = .int .i64 k ∧ agree (0, 0, 0) xs ys k ∧ Ext w wr) (fun i _ => n - (intOf i).toNat)
    case atStart => exact ⟨0, Nat.zero_le _, rfl, fun i hi => absurd hi (Nat.not_lt_zero _), Ext.refl w⟩
    case round =>
      obtain ⟨k, hk, rfl, hag, hext⟩ := hrel
      by_cases hlt : k < n
      · obtain ⟨ba, oa, rfl, hca0, hca1, hca2⟩ := (ha.ext hext).2 k hlt
        obtain ⟨bb, ob, rfl, hcb0, hcb1, hcb2⟩ := (hb.ext hext).2 k hlt
        by_cases he : xs.getD k (0, 0, 0) = ys.getD k (0, 0, 0)
        · have HA : Hid (agree (0, 0, 0) xs ys (k + 1)) := agree_succ hag he
          rw [he] at hca0 hca1 hca2
          generalize ys.getD k (0, 0, 0) = y at hca0 hca1 hca2 hcb0 hcb1 hcb2
          obtain ⟨y0, y1, y2⟩ := y
          clear he hag
          go_wp2
          go_quiet (fail)
          go_wp2
          go_roundw
          case rel => exact ⟨k + 1, by omega, by go_num, HA.out, hext.trans (Ext.drewN _ _)⟩
          case measure => simp [intOf]; omega
        · have HB : Hid (decide (xs = ys) = false) := beq_false_of he
          generalize xs.getD k (0, 0, 0) = x at hca0 hca1 hca2 he
          generalize ys.getD k (0, 0, 0) = y at hcb0 hcb1 hcb2 he
          obtain ⟨x0, x1, x2⟩ := x
          obtain ⟨y0, y1, y2⟩ := y
          clear hag
          have hor : (x0 == y0) = false ∨ (x0 = y0 ∧ (x1 == y1) = false) ∨ (x0 = y0 ∧ x1 = y1 ∧ (x2 == y2) = false) := ins_ne he
          clear he
          rcases hor with h0 | ⟨rfl, h1⟩ | ⟨rfl, rfl, h2⟩
          all_goals
            go_wp2
            go_quiet (fail)
            go_wp2
            go_ret
            exact ⟨ret_bool HB.out.symm, hext.trans (Ext.drewN _ _)⟩
      · have hkn : k = n := by omega
        subst hkn
        have HB : Hid (decide (xs = ys) = true) := decide_eq_true (eq_of_agree hag ha.1 hb.1)
        clear hag
        go_wp2
        go_ret
        exact ⟨ret_bool HB.out.symm, hext⟩
  · have HB : Hid (decide (xs = ys) = false) := beq_false_len (by rw [ha.1, hb.1]; exact hl)
    have hl' : ((n : Int) != m) = true := by simp; omega
    go_enter Tryd.func31, Tryd.ntmps31
    go_wp2
    go_ret
    exact ⟨ret_bool HB.out.symm, Ext.refl w⟩

end Go.Proofs.YtkhenmpdlnhgjaaDoor
