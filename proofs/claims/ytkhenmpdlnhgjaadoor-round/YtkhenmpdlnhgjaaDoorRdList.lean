import Derived.Test.YtkhenmpdlnhgjaaDoorRdIns
namespace Go.Proofs.YtkhenmpdlnhgjaaDoor
open Go.RowKit

theorem ownsKG {g B : Nat} {w w' : World} {e : TypeId} {sz n : Nat} {v : Value} {xs : List Value} (h : w.ownsRow B e sz v n xs) (k : KG g w w') (hg : g < B) : w'.ownsRow B e sz v n xs := by
  refine World.ownsRow.kept h k ?_
  cases ho : v.ownBlock with
  | none => exact .inl rfl
  | some b =>
    refine .inr ?_
    have := (World.ownsRow.lt h b ho).1
    intro e; cases e; omega
theorem rdGrown {g : Nat} {w w' : World} {bs : List UInt8} {row : Option Nat} (h : RD w g bs) (k : w.grownBy w' row) (hne : row ≠ some g) : RD w' g bs := by
  unfold RD OwnRow; rw [k.block g (OwnRow.lt h) (fun e => hne e.symm)]; exact h
theorem pMany_succ {α : Type} {item : List UInt8 → Option (α × List UInt8)} {k : Nat} {bs r : List UInt8} {xs : List α} (h : pMany item k bs = some (xs, r)) {x : α × List UInt8} (hx : item r = some x) : pMany item (k + 1) bs = some (xs ++ [x.1], x.2) := by
  unfold pMany; rw [h]; simp [hx]
theorem pMany_stop {α : Type} {item : List UInt8 → Option (α × List UInt8)} {k : Nat} {bs r : List UInt8} {xs : List α} (h : pMany item k bs = some (xs, r)) (hx : item r = none) : pMany item (k + 1) bs = none := by
  unfold pMany; rw [h]; simp [hx]
theorem pKind_le {bs : List UInt8} {x : Int × List UInt8} (h : pKind bs = some x) : 0 ≤ x.1 ∧ x.1 < 256 ∧ x.2.length ≤ bs.length := by
  unfold pKind at h
  obtain ⟨y, hy, rfl⟩ := Option.map_eq_some_iff.1 h
  have := pOct_le hy
  exact ⟨by simp only; omega, by simp only; omega, this.2⟩
theorem pIns_le {bs : List UInt8} {x : Ins × List UInt8} (h : pIns bs = some x) : x.2.length ≤ bs.length := by
  unfold pIns at h
  obtain ⟨a, ha, h⟩ := Option.bind_eq_some_iff.1 h
  obtain ⟨b, hb, h⟩ := Option.bind_eq_some_iff.1 h
  obtain ⟨c, hc, rfl⟩ := Option.map_eq_some_iff.1 h
  have h1 := pOct_le ha
  have h2 := pNum_le hb
  have h3 := pNum_le hc
  simp only; omega
theorem cell_one (w : World) (v : Value) (t : TypeId) : ∀ j u, [v][j]? = some u → (w.alloc (.cells #[v] t)).cell? ((⟨w.heap.size, 0, none⟩ : Addr).add j) = some u := by
  intro j u hj
  cases j with
  | zero => simp at hj; subst hj; exact (OwnRow.alloc w [v] t).cell 0
  | succ j => simp at hj
theorem cell_three (w : World) (a b c : Value) (t : TypeId) : ∀ j u, [a, b, c][j]? = some u → (w.alloc (.cells #[a, b, c] t)).cell? ((⟨w.heap.size, 0, none⟩ : Addr).add j) = some u := by
  intro j u hj
  have hr := OwnRow.alloc w [a, b, c] t
  have hj3 : j < 3 := by have := (List.getElem?_eq_some_iff.1 hj).1; simpa using this
  have hadd : (⟨w.heap.size, 0, none⟩ : Addr).add j = ⟨w.heap.size, j, none⟩ := by
    unfold Addr.add; split
    · next e => subst e; rfl
    · simp
  rw [hadd, hr.cell]; exact hj

set_option maxHeartbeats 1000000 in
theorem listText_any (g : Nat) (bs : List UInt8) (et : TypeId) (ev : Value) (w : World) (h : RD w g bs) (hl : bs.length ≤ 140737488355328) (hg : 0 < g) (hE : w.cell? ⟨0, 0, none⟩ = some (.iface et ev)) :
    Calls Tryd.prog 46 #[.pointer (some ⟨g, 0, none⟩), .func (.func 47) #[.pointer (some ⟨g, 0, none⟩)] #[]] w fun e w' =>
      Outc (pList pText bs) (fun x => ∃ v', e = .returned v' ∧ w'.ownsRow w.heap.size 9 1 v' x.1.length (strs x.1) ∧ RD w' g x.2 ∧ KG g w w') (e = Gave et ev ∧ KG g w w') := by
  have hgl : g < w.heap.size := OwnRow.lt h
  go_enter Tryd.func46, Tryd.ntmps46
  go_wp2_with fail
  refine (number_any g bs et ev w h hl hg hE).mono ?_
  intro e w1 hO
  cases hN : pNum bs with
  | none =>
    obtain ⟨rfl, hk⟩ := hO.no hN
    exact ⟨rfl, outc_no (by unfold pList; rw [hN]; rfl) ⟨rfl, hk⟩⟩
  | some x =>
    obtain ⟨rfl, hr1, hk1⟩ := hO.yes hN
    obtain ⟨n, r0⟩ := x
    have hle := pNum_le hN
    simp only at hr1 hk1 hle
    have HL : Hid (pList pText bs = pMany pText n r0) := by show _ = _; unfold pList; rw [hN]; rfl
    have hE1 := hk1.cell hE (by omega)
    have hn63 : n ≤ 2147483647 := hle.1
    have hr0l : r0.length ≤ 140737488355328 := by omega
    clear hO hN hle
    go_wp2_with fail
    go_loopw [5, 8] (fun a i wr => ∃ (k : Nat) (xs : List ByteArray) (r : List UInt8), k ≤ n ∧ i = .int .i64 k ∧ pMany pText k r0 = some (xs, r) ∧ xs.length = k ∧ r.length ≤ r0.length ∧ RD wr g r ∧ KG g w wr ∧ wr.ownsRow w.heap.size 9 1 a k (strs xs)) (fun _ i _ => n - (intOf i).toNat)
    case atStart => exact ⟨0, [], r0, Nat.zero_le _, rfl, rfl, rfl, Nat.le_refl _, hr1, hk1, World.ownsRow_nil _ _ _ _⟩
    case round =>
      obtain ⟨k, xs, r, hk, rfl, hpm, hxl, hrl, hrd, hkg, hown⟩ := hrel
      have HPM := hide hpm
      have HXL := hide hxl
      have hE2 := hkg.cell hE (by omega)
      clear hpm hxl hr1 hk1 hE1
      by_cases hlt : k < n
      · go_wp2_with fail
        refine (text_any g r et ev wr hrd (by omega) hg hE2).mono ?_
        intro e w2 hO
        cases hN : pText r with
        | none =>
          obtain ⟨rfl, hk2⟩ := hO.no hN
          exact ⟨rfl, outc_no (by rw [HL.out]; exact pMany_none (pMany_stop HPM.out hN) n (by omega)) ⟨rfl, hkg.trans hk2⟩⟩
        | some x =>
          obtain ⟨rfl, hr2, hk2⟩ := hO.yes hN
          have HNX := hide (pMany_succ HPM.out hN)
          have hle2 := pText_le hN
          obtain ⟨s, r'⟩ := x
          simp only at hr2 hk2 HNX hle2
          have hown2 := ownsKG hown hk2 hgl
          have hkg2 := hkg.trans hk2
          clear hO hN hown hkg hk2
          go_wp2_with (at_builtin; refine wpList_append_own _ rfl _ _ 24 rfl w.heap.size 9 Tryd.t9 (.string ByteArray.empty) 1 16 Tryd.underlying24 info_string (by kernel_rfl) (by kernel_rfl) (by kernel_rfl) (by kernel_rfl) (by omega) _ k (strs xs) rfl (ownsKG hown2 (KG.of_ext ((Ext.refl w2).alloc _)) hgl) ⟨w2.heap.size, 0, none⟩ 1 1 [.string s] rfl (by simp) (cell_one w2 _ _) (by simp [Value.oneCell']) (by unfold maxLen; omega) (by omega) (Nat.le_trans hkg2.size ((Ext.refl w2).alloc _).size) ?_; intro v3 w3 ho3 hg3 hn3)
          have hrow : ∀ b, Value.ownBlock u5 = some b → w.heap.size ≤ b := fun b hb => (World.ownsRow.lt hown2 b hb).1
          have hrd3 : RD w3 g r' := rdGrown (hr2.ext ((Ext.refl w2).alloc _)) hg3 (fun e => by have := hrow g e; omega)
          have hkg3 : KG g w w3 := (hkg2.trans (KG.of_ext ((Ext.refl w2).alloc _))).grown hg3 hrow
          go_roundw
          case rel =>
            refine ⟨k + 1, xs ++ [s], r', by omega, by go_num, HNX.out, by simp [HXL.out], by omega, hrd3, hkg3, ?_⟩
            have e : strs (xs ++ [s]) = strs xs ++ [.string s] := by simp [strs]
            rw [e]; exact ho3
          case measure => simp [intOf]; omega
      · have hkn : k = n := by omega
        subst hkn
        go_wp2_with fail
        go_ret
        refine outc_yes (HL.out.trans HPM.out) ⟨_, rfl, ?_, hrd, hkg⟩
        simp only
        rw [HXL.out]
        exact hown

set_option maxHeartbeats 1000000 in
theorem listKind_any (g : Nat) (bs : List UInt8) (et : TypeId) (ev : Value) (w : World) (h : RD w g bs) (hl : bs.length ≤ 140737488355328) (hg : 0 < g) (hE : w.cell? ⟨0, 0, none⟩ = some (.iface et ev)) :
    Calls Tryd.prog 58 #[.pointer (some ⟨g, 0, none⟩), .func (.func 59) #[.pointer (some ⟨g, 0, none⟩)] #[]] w fun e w' =>
      Outc (pList pKind bs) (fun x => ∃ v', e = .returned v' ∧ w'.ownsRow w.heap.size 3 1 v' x.1.length (ints x.1) ∧ RD w' g x.2 ∧ KG g w w') (e = Gave et ev ∧ KG g w w') := by
  have hgl : g < w.heap.size := OwnRow.lt h
  go_enter Tryd.func58, Tryd.ntmps58
  go_wp2_with fail
  refine (number_any g bs et ev w h hl hg hE).mono ?_
  intro e w1 hO
  cases hN : pNum bs with
  | none =>
    obtain ⟨rfl, hk⟩ := hO.no hN
    exact ⟨rfl, outc_no (by unfold pList; rw [hN]; rfl) ⟨rfl, hk⟩⟩
  | some x =>
    obtain ⟨rfl, hr1, hk1⟩ := hO.yes hN
    obtain ⟨n, r0⟩ := x
    have hle := pNum_le hN
    simp only at hr1 hk1 hle
    have HL : Hid (pList pKind bs = pMany pKind n r0) := by show _ = _; unfold pList; rw [hN]; rfl
    have hE1 := hk1.cell hE (by omega)
    have hn63 : n ≤ 2147483647 := hle.1
    have hr0l : r0.length ≤ 140737488355328 := by omega
    clear hO hN hle
    go_wp2_with fail
    go_loopw [5, 8] (fun a i wr => ∃ (k : Nat) (xs : List Int) (r : List UInt8), k ≤ n ∧ i = .int .i64 k ∧ pMany pKind k r0 = some (xs, r) ∧ xs.length = k ∧ r.length ≤ r0.length ∧ RD wr g r ∧ KG g w wr ∧ wr.ownsRow w.heap.size 3 1 a k (ints xs)) (fun _ i _ => n - (intOf i).toNat)
    case atStart => exact ⟨0, [], r0, Nat.zero_le _, rfl, rfl, rfl, Nat.le_refl _, hr1, hk1, World.ownsRow_nil _ _ _ _⟩
    case round =>
      obtain ⟨k, xs, r, hk, rfl, hpm, hxl, hrl, hrd, hkg, hown⟩ := hrel
      have HPM := hide hpm
      have HXL := hide hxl
      have hE2 := hkg.cell hE (by omega)
      clear hpm hxl hr1 hk1 hE1
      by_cases hlt : k < n
      · go_wp2_with fail
        refine (kind_any g r et ev wr hrd (by omega) hE2).mono ?_
        intro e w2 hO
        cases hN : pKind r with
        | none =>
          obtain ⟨rfl, hk2⟩ := hO.no hN
          exact ⟨rfl, outc_no (by rw [HL.out]; exact pMany_none (pMany_stop HPM.out hN) n (by omega)) ⟨rfl, hkg.trans hk2⟩⟩
        | some x =>
          obtain ⟨rfl, hr2, hk2⟩ := hO.yes hN
          have HNX := hide (pMany_succ HPM.out hN)
          have hle2 := pKind_le hN
          obtain ⟨s, r'⟩ := x
          simp only at hr2 hk2 HNX hle2
          have hown2 := ownsKG hown hk2 hgl
          have hkg2 := hkg.trans hk2
          clear hO hN hown hkg hk2
          go_wp2_with (at_builtin; refine wpList_append_own _ rfl _ _ 32 rfl w.heap.size 3 Tryd.t3 (.int .i64 0) 1 8 Tryd.underlying32 info_int (by kernel_rfl) (by kernel_rfl) (by kernel_rfl) (by kernel_rfl) (by omega) _ k (ints xs) rfl (ownsKG hown2 (KG.of_ext ((Ext.refl w2).alloc _)) hgl) ⟨w2.heap.size, 0, none⟩ 1 1 [.int .i64 s] rfl (by simp) (cell_one w2 _ _) (by simp [Value.oneCell']) (by unfold maxLen; omega) (by omega) (Nat.le_trans hkg2.size ((Ext.refl w2).alloc _).size) ?_; intro v3 w3 ho3 hg3 hn3)
          have hrow : ∀ b, Value.ownBlock u5 = some b → w.heap.size ≤ b := fun b hb => (World.ownsRow.lt hown2 b hb).1
          have hrd3 : RD w3 g r' := rdGrown (hr2.ext ((Ext.refl w2).alloc _)) hg3 (fun e => by have := hrow g e; omega)
          have hkg3 : KG g w w3 := (hkg2.trans (KG.of_ext ((Ext.refl w2).alloc _))).grown hg3 hrow
          go_roundw
          case rel =>
            refine ⟨k + 1, xs ++ [s], r', by omega, by go_num, HNX.out, by simp [HXL.out], by omega, hrd3, hkg3, ?_⟩
            have e : ints (xs ++ [s]) = ints xs ++ [.int .i64 s] := by simp [ints]
            rw [e]; exact ho3
          case measure => simp [intOf]; omega
      · have hkn : k = n := by omega
        subst hkn
        go_wp2_with fail
        go_ret
        refine outc_yes (HL.out.trans HPM.out) ⟨_, rfl, ?_, hrd, hkg⟩
        simp only
        rw [HXL.out]
        exact hown

set_option maxHeartbeats 1000000 in
theorem listIns_any (g : Nat) (bs : List UInt8) (et : TypeId) (ev : Value) (w : World) (h : RD w g bs) (hl : bs.length ≤ 140737488355328) (hg : 0 < g) (hE : w.cell? ⟨0, 0, none⟩ = some (.iface et ev)) :
    Calls Tryd.prog 60 #[.pointer (some ⟨g, 0, none⟩), .func (.func 61) #[.pointer (some ⟨g, 0, none⟩)] #[]] w fun e w' =>
      Outc (pList pIns bs) (fun x => ∃ v', e = .returned v' ∧ w'.ownsRow w.heap.size 36 3 v' x.1.length (codes x.1) ∧ RD w' g x.2 ∧ KG g w w') (e = Gave et ev ∧ KG g w w') := by
  have hgl : g < w.heap.size := OwnRow.lt h
  go_enter Tryd.func60, Tryd.ntmps60
  go_wp2_with fail
  refine (number_any g bs et ev w h hl hg hE).mono ?_
  intro e w1 hO
  cases hN : pNum bs with
  | none =>
    obtain ⟨rfl, hk⟩ := hO.no hN
    exact ⟨rfl, outc_no (by unfold pList; rw [hN]; rfl) ⟨rfl, hk⟩⟩
  | some x =>
    obtain ⟨rfl, hr1, hk1⟩ := hO.yes hN
    obtain ⟨n, r0⟩ := x
    have hle := pNum_le hN
    simp only at hr1 hk1 hle
    have HL : Hid (pList pIns bs = pMany pIns n r0) := by show _ = _; unfold pList; rw [hN]; rfl
    have hE1 := hk1.cell hE (by omega)
    have hn63 : n ≤ 2147483647 := hle.1
    have hr0l : r0.length ≤ 140737488355328 := by omega
    clear hO hN hle
    go_wp2_with fail
    go_loopw [5, 8] (fun a i wr => ∃ (k : Nat) (xs : List Ins) (r : List UInt8), k ≤ n ∧ i = .int .i64 k ∧ pMany pIns k r0 = some (xs, r) ∧ xs.length = k ∧ r.length ≤ r0.length ∧ RD wr g r ∧ KG g w wr ∧ wr.ownsRow w.heap.size 36 3 a k (codes xs)) (fun _ i _ => n - (intOf i).toNat)
    case atStart => exact ⟨0, [], r0, Nat.zero_le _, rfl, rfl, rfl, Nat.le_refl _, hr1, hk1, World.ownsRow_nil _ _ _ _⟩
    case round =>
      obtain ⟨k, xs, r, hk, rfl, hpm, hxl, hrl, hrd, hkg, hown⟩ := hrel
      have HPM := hide hpm
      have HXL := hide hxl
      have hE2 := hkg.cell hE (by omega)
      clear hpm hxl hr1 hk1 hE1
      by_cases hlt : k < n
      · go_wp2_with fail
        refine (ins_any g r et ev wr hrd (by omega) hg hE2).mono ?_
        intro e w2 hO
        cases hN : pIns r with
        | none =>
          obtain ⟨rfl, hk2⟩ := hO.no hN
          exact ⟨rfl, outc_no (by rw [HL.out]; exact pMany_none (pMany_stop HPM.out hN) n (by omega)) ⟨rfl, hkg.trans hk2⟩⟩
        | some x =>
          obtain ⟨rfl, hr2, hk2⟩ := hO.yes hN
          have HNX := hide (pMany_succ HPM.out hN)
          have hle2 := pIns_le hN
          obtain ⟨s, r'⟩ := x
          simp only at hr2 hk2 HNX hle2
          have hown2 := ownsKG hown hk2 hgl
          have hkg2 := hkg.trans hk2
          clear hO hN hown hkg hk2
          go_wp2_with (at_builtin; refine wpList_append_own _ rfl _ _ 33 rfl w.heap.size 36 Tryd.t36 (.agg #[.int .i64 0, .int .i64 0, .int .i64 0]) 3 24 Tryd.underlying33 info_ins (by kernel_rfl) (by kernel_rfl) (by kernel_rfl) (by kernel_rfl) (by omega) _ k (codes xs) rfl (ownsKG hown2 (KG.of_ext ((Ext.refl w2).alloc _)) hgl) ⟨w2.heap.size, 0, none⟩ 1 1 [.int .i64 s.1, .int .i64 s.2.1, .int .i64 s.2.2] rfl (by simp) (cell_three w2 _ _ _ _) (by simp [Value.oneCell']) (by unfold maxLen; omega) (by omega) (Nat.le_trans hkg2.size ((Ext.refl w2).alloc _).size) ?_; intro v3 w3 ho3 hg3 hn3)
          have hrow : ∀ b, Value.ownBlock u5 = some b → w.heap.size ≤ b := fun b hb => (World.ownsRow.lt hown2 b hb).1
          have hrd3 : RD w3 g r' := rdGrown (hr2.ext ((Ext.refl w2).alloc _)) hg3 (fun e => by have := hrow g e; omega)
          have hkg3 : KG g w w3 := (hkg2.trans (KG.of_ext ((Ext.refl w2).alloc _))).grown hg3 hrow
          go_roundw
          case rel =>
            refine ⟨k + 1, xs ++ [s], r', by omega, by go_num, HNX.out, by simp [HXL.out], by omega, hrd3, hkg3, ?_⟩
            have e : codes (xs ++ [s]) = codes xs ++ [.int .i64 s.1, .int .i64 s.2.1, .int .i64 s.2.2] := by simp [codes]
            rw [e]; exact ho3
          case measure => simp [intOf]; omega
      · have hkn : k = n := by omega
        subst hkn
        go_wp2_with fail
        go_ret
        refine outc_yes (HL.out.trans HPM.out) ⟨_, rfl, ?_, hrd, hkg⟩
        simp only
        rw [HXL.out]
        exact hown

end Go.Proofs.YtkhenmpdlnhgjaaDoor
