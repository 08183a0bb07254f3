import Derived.Test.YtkhenmpdlnhgjaaDoorRep
namespace Go.Proofs.YtkhenmpdlnhgjaaDoor
open Go.RowKit

/-- The first k agree. -/
def agree {α : Type} (d : α) (xs ys : List α) (k : Nat) : Prop := ∀ i, i < k → xs.getD i d = ys.getD i d
theorem agree_succ {α : Type} {d : α} {xs ys : List α} {k : Nat} (h : agree d xs ys k) (e : xs.getD k d = ys.getD k d) : agree d xs ys (k + 1) := by
  intro i hi
  by_cases h' : i < k
  · exact h i h'
  · have : i = k := by omega
    subst this; exact e
theorem eq_of_agree {α : Type} {d : α} {xs ys : List α} {n : Nat} (h : agree d xs ys n) (hx : xs.length = n) (hy : ys.length = n) : xs = ys := by
  apply List.ext_getElem (by omega)
  intro i h1 h2
  have := h i (by omega)
  simpa [List.getD, h1, h2] using this

theorem beq_false_of {α : Type} [DecidableEq α] {d : α} {xs ys : List α} {k : Nat} (h : ¬ xs.getD k d = ys.getD k d) : decide (xs = ys) = false := by
  apply decide_eq_false; rintro rfl; exact h rfl
theorem beq_false_len {α : Type} [DecidableEq α] {xs ys : List α} (h : ¬ xs.length = ys.length) : decide (xs = ys) = false := by
  apply decide_eq_false; rintro rfl; exact h rfl
theorem ret_bool {a b : Bool} (h : a = b) : Ending.returned (.bool a) = .returned (.bool b) := by rw [h]

set_option maxHeartbeats 400000 in
theorem sameInts_any (a b : Option Addr) (n m ca cb : Nat) (xs ys : List Int) (w : World) (ha : IntsAt w a n xs) (hb : IntsAt w b m ys) (hx : n ≤ maxLen) (hy : m ≤ maxLen) :
    Calls Tryd.prog 30 #[.slice a n ca, .slice b m cb] w fun e w' => e = .returned (.bool (decide (xs = ys))) ∧ Ext w w' := by
  unfold maxLen at hx hy
  by_cases hl : n = m
  · subst hl
    go_enter Tryd.func30, Tryd.ntmps30
    go_wp2
    go_loopw [5] (fun i wr => ∃ k : Nat, k ≤ n ∧ i = .int .i64 k ∧ agree 0 xs ys k ∧ Ext w wr) (fun i _ => n - (intOf i).toNat)
    case atStart => exact ⟨0, Nat.zero_le _, rfl, fun i hi => absurd hi (Nat.not_lt_zero _), Ext.refl w⟩
    case round =>
      obtain ⟨k, hk, rfl, hag, hext⟩ := hrel
      by_cases hlt : k < n
      · obtain ⟨ba, oa, rfl, hca⟩ := (ha.ext hext).2 k hlt
        obtain ⟨bb, ob, rfl, hcb⟩ := (hb.ext hext).2 k hlt
        by_cases he : xs.getD k 0 = ys.getD k 0
        · have HA : Hid (agree 0 xs ys (k + 1)) := agree_succ hag he
          rw [he] at hca
          generalize ys.getD k 0 = y at hca hcb
          clear he hag
          go_wp2
          go_quiet (fail)
          go_wp2
          go_roundw
          case rel => exact ⟨k + 1, by omega, by go_num, HA.out, hext.trans (Ext.drewN _ _)⟩
          case measure => simp [intOf]; omega
        · have HB : Hid (decide (xs = ys) = false) := beq_false_of he
          generalize xs.getD k 0 = x at hca he
          generalize ys.getD k 0 = y at hcb he
          have he' : (x != y) = true := by simp [he]
          clear he hag
          go_wp2
          go_quiet (fail)
          go_wp2
          go_ret
          exact ⟨ret_bool HB.out.symm, hext.trans (Ext.drewN _ _)⟩
      · have hkn : k = n := by omega
        subst hkn
        have HB : Hid (decide (xs = ys) = true) := decide_eq_true (eq_of_agree hag ha.1 hb.1)
        clear hag
        go_wp2
        go_ret
        exact ⟨ret_bool HB.out.symm, hext⟩
  · have HB : Hid (decide (xs = ys) = false) := beq_false_len (by rw [ha.1, hb.1]; exact hl)
    have hl' : ((n : Int) != m) = true := by simp; omega
    go_enter Tryd.func30, Tryd.ntmps30
    go_wp2
    go_ret
    exact ⟨ret_bool HB.out.symm, Ext.refl w⟩

end Go.Proofs.YtkhenmpdlnhgjaaDoor
