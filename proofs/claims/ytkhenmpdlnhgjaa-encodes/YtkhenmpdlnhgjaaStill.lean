import Derived.Test.YtkhenmpdlnhgjaaSame2
namespace Go.Proofs.Ytkhenmpdlnhgjaa
open Go.RowKit

theorem IntsAt.left {w : World} {a : Option Addr} {n m : Nat} {xs ys : List Int} (h : IntsAt w a m (xs ++ ys)) (hn : xs.length = n) : IntsAt w a n xs := by
  have hl := h.1
  rw [List.length_append] at hl
  refine ⟨hn, fun i hi => ?_⟩
  obtain ⟨b, o, h1, h2⟩ := h.2 i (by omega)
  refine ⟨b, o, h1, ?_⟩
  have hg : (xs ++ ys).getD i 0 = xs.getD i 0 := by simp [List.getD, List.getElem?_append_left (show i < xs.length by omega)]
  rw [hg] at h2
  exact h2
theorem IntsAt.mark {w : World} {a : Option Addr} {n m : Nat} {xs : List Int} {x : Int} (h : IntsAt w a (n + m) (xs ++ List.replicate m x)) (hn : xs.length = n) {i : Nat} (hi : i < m) :
    ∃ b o, a = some ⟨b, o, none⟩ ∧ w.cell? ⟨b, o + (n + i), none⟩ = some (.int .i64 x) := by
  obtain ⟨b, o, h1, h2⟩ := h.2 (n + i) (by omega)
  refine ⟨b, o, h1, ?_⟩
  have hg : (xs ++ List.replicate m x).getD (n + i) 0 = x := by simp [List.getD, hn, hi]
  rw [hg] at h2
  exact h2

set_option maxHeartbeats 400000 in
theorem stillInts_yes (a b : Option Addr) (n ca cb : Nat) (xs : List Int) (w : World) (ha : IntsAt w a (n + 8) (xs ++ List.replicate 8 (-77))) (hb : IntsAt w b n xs) (hc : n + 8 ≤ ca) (hm : ca ≤ maxLen) :
    Calls Try.prog 14 #[.slice a n ca, .slice b n cb] w fun e w' => e = .returned (.bool true) ∧ Ext w w' := by
  unfold maxLen at hm
  go_enter Try.func14, Try.ntmps14
  go_wp2_with fail
  refine (sameInts_any _ _ _ _ _ _ xs xs _ (ha.left hb.1) hb (by unfold maxLen; omega) (by unfold maxLen; omega)).mono ?_
  rintro e w1 ⟨rfl, he1⟩
  simp only [decide_true]
  go_wp2
  go_loopw [8] (fun i wr => ∃ k : Nat, k ≤ 8 ∧ i = .int .i64 k ∧ Ext w wr) (fun i _ => 8 - (intOf i).toNat)
  case atStart => exact ⟨0, Nat.zero_le _, rfl, he1⟩
  case round =>
    obtain ⟨k, hk, rfl, hext⟩ := hrel
    by_cases hlt : k < 8
    · obtain ⟨ba, oa, rfl, hca⟩ := (ha.ext hext).mark hb.1 hlt
      go_wp2
      go_roundw
      case rel => exact ⟨k + 1, by omega, by go_num, hext⟩
      case measure => simp [intOf]; omega
    · go_wp2
      go_ret
      exact ⟨rfl, hext⟩

def markText : ByteArray := ⟨#[109, 97, 114, 107]⟩
theorem StrsAt.left {w : World} {a : Option Addr} {n m : Nat} {xs ys : List ByteArray} (h : StrsAt w a m (xs ++ ys)) (hn : xs.length = n) : StrsAt w a n xs := by
  have hl := h.1
  rw [List.length_append] at hl
  refine ⟨hn, fun i hi => ?_⟩
  obtain ⟨b, o, h1, h2⟩ := h.2 i (by omega)
  refine ⟨b, o, h1, ?_⟩
  have hg : (xs ++ ys).getD i ByteArray.empty = xs.getD i ByteArray.empty := by simp [List.getD, List.getElem?_append_left (show i < xs.length by omega)]
  rw [hg] at h2
  exact h2
theorem StrsAt.mark {w : World} {a : Option Addr} {n m : Nat} {xs : List ByteArray} {x : ByteArray} (h : StrsAt w a (n + m) (xs ++ List.replicate m x)) (hn : xs.length = n) {i : Nat} (hi : i < m) :
    ∃ b o, a = some ⟨b, o, none⟩ ∧ w.cell? ⟨b, o + (n + i), none⟩ = some (.string x) := by
  obtain ⟨b, o, h1, h2⟩ := h.2 (n + i) (by omega)
  refine ⟨b, o, h1, ?_⟩
  have hg : (xs ++ List.replicate m x).getD (n + i) ByteArray.empty = x := by simp [List.getD, hn, hi]
  rw [hg] at h2
  exact h2

set_option maxHeartbeats 400000 in
theorem stillTexts_yes (a b : Option Addr) (n ca cb : Nat) (xs : List ByteArray) (w : World) (ha : StrsAt w a (n + 8) (xs ++ List.replicate 8 markText)) (hb : StrsAt w b n xs) (hc : n + 8 ≤ ca) (hm : ca ≤ maxLen) :
    Calls Try.prog 13 #[.slice a n ca, .slice b n cb] w fun e w' => e = .returned (.bool true) ∧ Ext w w' := by
  unfold maxLen at hm
  go_enter Try.func13, Try.ntmps13
  go_wp2_with fail
  refine (sameTexts_any _ _ _ _ _ _ xs xs _ (ha.left hb.1) hb (by unfold maxLen; omega) (by unfold maxLen; omega)).mono ?_
  rintro e w1 ⟨rfl, he1⟩
  simp only [decide_true]
  go_wp2
  go_loopw [8] (fun i wr => ∃ k : Nat, k ≤ 8 ∧ i = .int .i64 k ∧ Ext w wr) (fun i _ => 8 - (intOf i).toNat)
  case atStart => exact ⟨0, Nat.zero_le _, rfl, he1⟩
  case round =>
    obtain ⟨k, hk, rfl, hext⟩ := hrel
    by_cases hlt : k < 8
    · obtain ⟨ba, oa, rfl, hca⟩ := (ha.ext hext).mark hb.1 hlt
      have hmk : (!markText.toList == [109, 97, 114, 107]) = false := by rw [ByteArray.toList_eq]; rfl
      go_wp2
      go_roundw
      case rel => exact ⟨k + 1, by omega, by go_num, hext⟩
      case measure => simp [intOf]; omega
    · go_wp2
      go_ret
      exact ⟨rfl, hext⟩

theorem markIns_any (w : World) :
    Calls Try.prog 18 #[] w fun e w' => e = .returned (.agg #[.int .i64 (-77), .int .i64 7, .int .i64 7]) ∧ Ext w w' := by
  go_enter Try.func18, Try.ntmps18
  go_wp2
  exact bodyPost_ret (v := .agg #[.int .i64 (-77), .int .i64 7, .int .i64 7]) (by simp [results, Try.results18, go_sem]) rfl ⟨rfl, (Ext.refl _).alloc _⟩

theorem CodeAt.left {w : World} {a : Option Addr} {n m : Nat} {xs ys : List Ins} (h : CodeAt w a m (xs ++ ys)) (hn : xs.length = n) : CodeAt w a n xs := by
  have hl := h.1
  rw [List.length_append] at hl
  refine ⟨hn, fun i hi => ?_⟩
  obtain ⟨b, o, h1, h2⟩ := h.2 i (by omega)
  refine ⟨b, o, h1, ?_⟩
  have hg : (xs ++ ys).getD i (0, 0, 0) = xs.getD i (0, 0, 0) := by simp [List.getD, List.getElem?_append_left (show i < xs.length by omega)]
  rw [hg] at h2
  exact h2
theorem CodeAt.mark {w : World} {a : Option Addr} {n m : Nat} {xs : List Ins} {x : Ins} (h : CodeAt w a (n + m) (xs ++ List.replicate m x)) (hn : xs.length = n) {i : Nat} (hi : i < m) :
    ∃ b o, a = some ⟨b, o, none⟩ ∧ w.cell? ⟨b, o + (n + i) * 3, none⟩ = some (.int .i64 x.1) ∧ w.cell? ⟨b, o + (n + i) * 3 + 1, none⟩ = some (.int .i64 x.2.1) ∧ w.cell? ⟨b, o + (n + i) * 3 + 2, none⟩ = some (.int .i64 x.2.2) := by
  obtain ⟨b, o, h1, h2⟩ := h.2 (n + i) (by omega)
  refine ⟨b, o, h1, ?_⟩
  have hg : (xs ++ List.replicate m x).getD (n + i) (0, 0, 0) = x := by simp [List.getD, hn, hi]
  rw [hg] at h2
  exact h2

set_option maxHeartbeats 400000 in
theorem stillCode_yes (a b : Option Addr) (n ca cb : Nat) (xs : List Ins) (w : World) (ha : CodeAt w a (n + 8) (xs ++ List.replicate 8 (-77, 7, 7))) (hb : CodeAt w b n xs) (hc : n + 8 ≤ ca) (hm : ca ≤ maxLen) :
    Calls Try.prog 15 #[.slice a n ca, .slice b n cb] w fun e w' => e = .returned (.bool true) ∧ Ext w w' := by
  unfold maxLen at hm
  go_enter Try.func15, Try.ntmps15
  go_wp2_with fail
  refine (sameCode_any _ _ _ _ _ _ xs xs _ (ha.left hb.1) hb (by unfold maxLen; omega) (by unfold maxLen; omega)).mono ?_
  rintro e w1 ⟨rfl, he1⟩
  simp only [decide_true]
  go_wp2
  go_loopw [8] (fun i wr => ∃ k : Nat, k ≤ 8 ∧ i = .int .i64 k ∧ Ext w wr) (fun i _ => 8 - (intOf i).toNat)
  case atStart => exact ⟨0, Nat.zero_le _, rfl, he1⟩
  case round =>
    obtain ⟨k, hk, rfl, hext⟩ := hrel
    by_cases hlt : k < 8
    · obtain ⟨ba, oa, rfl, hca0, hca1, hca2⟩ := (ha.ext hext).mark hb.1 hlt
      go_wp2
      have hq0 := fun n : ExtW wr => n.cell hca0
      have hq1 := fun n : ExtW wr => n.cell hca1
      have hq2 := fun n : ExtW wr => n.cell hca2
      clear hca0 hca1 hca2
      have hne : Nonempty (ExtW wr) := ⟨⟨wr, Ext.refl wr⟩⟩
      refine wp_region_ext_lit (by kernel_rfl) (by kernel_rfl) ?_
      repeat (go_big_quiet_step ((go_at_call 18; exact calls_ext_of (markIns_any _))))
      refine wpQuiet_nil ?_
      rintro _ ⟨nq, rfl⟩
      go_wp2
      go_roundw
      case rel => exact ⟨k + 1, by omega, by go_num, hext.trans nq.ext⟩
      case measure => simp [intOf]; omega
    · go_wp2
      go_ret
      exact ⟨rfl, hext⟩

end Go.Proofs.Ytkhenmpdlnhgjaa
