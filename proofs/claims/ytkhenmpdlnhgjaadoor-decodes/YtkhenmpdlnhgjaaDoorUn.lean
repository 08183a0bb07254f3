import Derived.Test.YtkhenmpdlnhgjaaDoorRead2
namespace Go.Proofs.YtkhenmpdlnhgjaaDoor
open Go.RowKit

/-! ### The document's reader: bytes by places -/
/-- Where it is in the bytes, and whether they were not as many. -/
def SPat (w : World) (g : Nat) (s : ByteArray) (n : Nat) (bad : Bool) : Prop := OwnRow w g [.string s, .int .i64 n, .bool bad] 61

set_option maxHeartbeats 400000 in
theorem one_yes (g n : Nat) (s : ByteArray) (w : World) (h : SPat w g s n false) (hn : n < s.size) (_hl : s.size ≤ 140737488355328) :
    Calls Tryd.prog 28 #[.pointer (some ⟨g, 0, none⟩)] w fun e w' => e = .returned (.int .i64 s[n].toNat) ∧ SPat w' g s (n + 1) false ∧ KG g w w' := by
  have hc0 : w.cell? ⟨g, 0, none⟩ = some (.string s) := h.cell 0
  have hc1 : w.cell? ⟨g, 1, none⟩ = some (.int .i64 n) := h.cell 1
  have hi : ¬ (s.size : Int) ≤ n := by omega
  have hb := s[n].toNat_lt
  go_enter Tryd.func28, Tryd.ntmps28
  go_wp2
  go_quiet (fail)
  have hx := Ext.drewN w nq
  generalize w.drewN nq = w1 at hx ⊢
  have h1 : SPat w1 g s n false := OwnRow.ext h hx
  have hd1 : w1.cell? ⟨g, 1, none⟩ = some (.int .i64 n) := h1.cell 1
  have hf := h1.frozen 1
  clear hc0 hc1
  go_wp2
  have h2 := h1.set 1 (.int .i64 ((n : Int) + 1))
  simp only [List.set_cons_zero, List.set_cons_succ] at h2
  have hk := (KG.of_ext (g := g) hx).set 1 (.int .i64 ((n : Int) + 1))
  clear hd1 hf
  generalize w1.setCell ⟨g, 1, none⟩ (.int .i64 ((n : Int) + 1)) = w2 at h2 hk ⊢
  have hd0 : w2.cell? ⟨g, 0, none⟩ = some (.string s) := h2.cell 0
  have hd1 : w2.cell? ⟨g, 1, none⟩ = some (.int .i64 ((n : Int) + 1)) := h2.cell 1
  go_quiet (fail)
  go_wp2
  go_ret
  exact ⟨rfl, OwnRow.ext h2 (Ext.drewN _ _), hk.trans (KG.of_ext (Ext.drewN _ _))⟩

set_option maxHeartbeats 400000 in
theorem one_no (g n : Nat) (s : ByteArray) (b : Bool) (w : World) (h : SPat w g s n b) (hn : ¬ n < s.size) (_hl : n ≤ 140737488355338) :
    Calls Tryd.prog 28 #[.pointer (some ⟨g, 0, none⟩)] w fun e w' => e = .returned (.int .i64 0) ∧ SPat w' g s n true ∧ KG g w w' := by
  have hc0 : w.cell? ⟨g, 0, none⟩ = some (.string s) := h.cell 0
  have hc1 : w.cell? ⟨g, 1, none⟩ = some (.int .i64 n) := h.cell 1
  have hi : (s.size : Int) ≤ n := by omega
  go_enter Tryd.func28, Tryd.ntmps28
  go_wp2
  go_quiet (fail)
  have hx := Ext.drewN w nq
  generalize w.drewN nq = w1 at hx ⊢
  have h1 : SPat w1 g s n b := OwnRow.ext h hx
  have hd2 : w1.cell? ⟨g, 2, none⟩ = some (.bool b) := h1.cell 2
  have hf := h1.frozen 2
  clear hc0 hc1
  go_wp2
  go_ret
  exact ⟨rfl, h1.set 2 _, (KG.of_ext hx).set 2 _⟩

/-! ### What it makes of bytes -/
def lF (most : Nat) : Nat → Nat → Nat → List UInt8 → Option (Nat × List UInt8)
  | 0, _, _, _ => none
  | _ + 1, _, _, [] => none
  | f + 1, i, n, b :: r => if b.toNat < 128 then (if most < n + b.toNat % 128 * 128 ^ i then none else some (n + b.toNat % 128 * 128 ^ i, r)) else lF most f (i + 1) (n + b.toNat % 128 * 128 ^ i) r
def lNum (most : Nat) (bs : List UInt8) : Option (Nat × List UInt8) := lF most 5 0 0 bs
def lText (most : Nat) (bs : List UInt8) : Option (ByteArray × List UInt8) := (lNum most bs).bind fun x => (pTake x.1 x.2).map fun y => (⟨y.1.toArray⟩, y.2)
def lList {α : Type} (most : Nat) (item : List UInt8 → Option (α × List UInt8)) (bs : List UInt8) : Option (List α × List UInt8) := (lNum most bs).bind fun x => pMany item x.1 x.2
def lIns (bs : List UInt8) : Option (Ins × List UInt8) := (pOct bs).bind fun x => (lNum 2147483647 x.2).bind fun y => (lNum 2147483647 y.2).map fun z => (((x.1 : Int), (y.1 : Int), (z.1 : Int)), z.2)
def lPhr (bs : List UInt8) : Option (Phr × List UInt8) := (lText 12 bs).bind fun x => (lList 6 pKind x.2).bind fun y => (lList 60 lIns y.2).map fun z => (⟨x.1, y.1, z.1⟩, z.2)
def lPack (bs : List UInt8) : Option (Pk × List UInt8) := (lList 40 (lText 60) bs).bind fun x => (lList 12 lPhr x.2).map fun y => (⟨x.1, y.1⟩, y.2)

theorem drop_cons {s : ByteArray} {n : Nat} (h : n < s.size) : s.data.toList.drop n = s[n] :: s.data.toList.drop (n + 1) := by
  rw [List.drop_eq_getElem_cons (by simpa using h)]; rfl
theorem drop_nil {s : ByteArray} {n : Nat} (h : ¬ n < s.size) : s.data.toList.drop n = [] := List.drop_eq_nil_of_le (by simpa using h)

theorem one_any (g n bn : Nat) (s : ByteArray) (w : World) (h : SPat w g s n false) (hn : n < s.size) (hb : s[n].toNat = bn) (hl : s.size ≤ 140737488355328) :
    Calls Tryd.prog 28 #[.pointer (some ⟨g, 0, none⟩)] w fun e w' => e = .returned (.int .i64 bn) ∧ SPat w' g s (n + 1) false ∧ KG g w w' := by
  subst hb; exact one_yes g n s w h hn hl

set_option maxHeartbeats 400000 in
theorem u_bad (g most n : Nat) (s : ByteArray) (w : World) (h : SPat w g s n true) :
    Calls Tryd.prog 26 #[.pointer (some ⟨g, 0, none⟩), .int .i64 most] w fun e w' => e = .returned (.int .i64 0) ∧ SPat w' g s n true ∧ KG g w w' := by
  have hc2 : w.cell? ⟨g, 2, none⟩ = some (.bool true) := h.cell 2
  have hf := h.frozen 2
  go_enter Tryd.func26, Tryd.ntmps26
  go_wp2
  go_loopw [5, 6, 7] (fun a b i wr => a = .int .i64 0 ∧ b = .int .i64 1 ∧ i = .int .i64 0 ∧ wr = w) (fun _ _ _ _ => 0)
  case atStart => exact ⟨rfl, rfl, rfl, rfl⟩
  case round =>
    obtain ⟨rfl, rfl, rfl, rfl⟩ := hrel
    go_wp2
    go_ret
    exact ⟨rfl, h.set 2 _, (KG.refl _ _).set 2 _⟩

theorem pow128 {i : Nat} (h : i < 5) : 128 ^ i ≤ 268435456 := by
  have := Nat.pow_le_pow_right (n := 128) (by omega) (show i ≤ 4 by omega)
  simpa using this
theorem grp128 {m c bn : Nat} (hm : m < c) (hc : c ≤ 268435456) : wrap64 ((m : Int) + wrap64 ((c : Int) * ((bn : Int) % 128))) = ((m + bn % 128 * c : Nat) : Int) := by
  have hlt : bn % 128 < 128 := Nat.mod_lt _ (by omega)
  have hmul : bn % 128 * c ≤ 127 * c := Nat.mul_le_mul_right _ (by omega)
  have e : (c : Int) * ((bn : Int) % 128) = ((bn % 128 * c : Nat) : Int) := by rw [Int.natCast_mul, Int.mul_comm]; congr 1
  rw [e, wrap_id (x := ((bn % 128 * c : Nat) : Int)) (by omega) (by omega), wrap_id (by omega) (by omega)]; omega
theorem grp_lt {m c cc bn : Nat} (hm : m < c) (hcc : c * 128 = cc) : m + bn % 128 * c < cc := by
  have hlt : bn % 128 < 128 := Nat.mod_lt _ (by omega)
  have hmul : bn % 128 * c ≤ 127 * c := Nat.mul_le_mul_right _ (by omega)
  omega

set_option maxRecDepth 100000 in
set_option maxHeartbeats 2000000 in
theorem u_good (g most n : Nat) (s : ByteArray) (w : World) (h : SPat w g s n false) (hn : n ≤ s.size + 3) (hl : s.size ≤ 140737488355328) (_hm : most ≤ 2147483647) :
    Calls Tryd.prog 26 #[.pointer (some ⟨g, 0, none⟩), .int .i64 most] w fun e w' => ∃ m : Nat, e = .returned (.int .i64 m) ∧ m ≤ most ∧ KG g w w' ∧
      Outc (lNum most (s.data.toList.drop n)) (fun x => x.1 = m ∧ ∃ n', n' ≤ s.size ∧ SPat w' g s n' false ∧ s.data.toList.drop n' = x.2) (∃ n', n' ≤ s.size + 3 ∧ SPat w' g s n' true) := by
  go_enter Tryd.func26, Tryd.ntmps26
  go_wp2
  go_loopw [5, 6, 7] (fun a b k wr => ∃ (i m p c : Nat), i ≤ 5 ∧ c = 128 ^ i ∧ m < c ∧ a = .int .i64 m ∧ b = .int .i64 (c : Int) ∧ k = .int .i64 i ∧ p ≤ s.size + 3 ∧ SPat wr g s p false ∧ KG g w wr ∧ lF most (5 - i) i m (s.data.toList.drop p) = lNum most (s.data.toList.drop n)) (fun _ _ k _ => 5 - (intOf k).toNat)
  case atStart => exact ⟨0, 0, n, 1, by omega, rfl, by omega, rfl, rfl, rfl, hn, h, KG.refl _ _, rfl⟩
  case round =>
    obtain ⟨i, m, p, c, hi, hc, hm', rfl, rfl, rfl, hp, hsp, hk, hP⟩ := hrel
    have HP := hide hP
    have HC := hide hc
    clear hP h hc
    have hc2 : wr.cell? ⟨g, 2, none⟩ = some (.bool false) := hsp.cell 2
    by_cases h5 : i < 5
    · have hcb : c ≤ 268435456 := by rw [HC.out]; exact pow128 h5
      have hcs : wrap64 ((c : Int) * 128) = ((c * 128 : Nat) : Int) := by rw [wrap_id (by omega) (by omega)]; omega
      have HCS : Hid (c * 128 = 128 ^ (i + 1)) := by show _ = _; rw [HC.out, Nat.pow_succ]
      generalize hcc : c * 128 = cc at hcs HCS
      by_cases hps : p < s.size
      · have hnext : lF most (5 - i) i m (s[p] :: s.data.toList.drop (p + 1)) = if s[p].toNat < 128 then (if most < m + s[p].toNat % 128 * 128 ^ i then none else some (m + s[p].toNat % 128 * 128 ^ i, s.data.toList.drop (p + 1))) else lF most (5 - (i + 1)) (i + 1) (m + s[p].toNat % 128 * 128 ^ i) (s.data.toList.drop (p + 1)) := by
          rw [show 5 - i = (5 - (i + 1)) + 1 by omega]; rfl
        rw [drop_cons hps] at HP
        have HX := hide (HP.out.symm.trans hnext)
        rw [← HC.out] at HX
        clear hnext HP
        have hb := s[p].toNat_lt
        generalize hbn : s[p].toNat = bn at HX hb
        have hv := grp128 (bn := bn) hm' hcb
        have hvl := grp_lt (bn := bn) hm' hcc
        generalize m + bn % 128 * c = v at hv hvl HX
        have HCC : Hid ((c : Int) * 128 = (cc : Int)) := by show _ = _; rw [← hcc]; rfl
        clear hcc
        by_cases h128 : bn < 128
        · have HX1 : Hid (lNum most (s.data.toList.drop n) = if most < v then none else some (v, s.data.toList.drop (p + 1))) := by show _ = _; rw [HX.out, if_pos h128]
          have hi128 : (bn : Int) < 128 := by omega
          clear HX h128
          by_cases hbig : most < v
          · have HX2 : Hid (lNum most (s.data.toList.drop n) = none) := by show _ = _; rw [HX1.out, if_pos hbig]
            have hbi : (most : Int) < v := by omega
            clear HX1 hbig
            go_wp2_with fail
            refine (one_any g p bn s wr hsp hps hbn hl).mono ?_
            rintro e w1 ⟨rfl, hsp1, hk1⟩
            have hd2 : w1.cell? ⟨g, 2, none⟩ = some (.bool false) := hsp1.cell 2
            have hf := hsp1.frozen 2
            go_wp2_with fail
            go_ret
            exact ⟨0, rfl, Nat.zero_le _, (hk.trans hk1).set 2 _, outc_no HX2.out ⟨p + 1, by omega, hsp1.set 2 _⟩⟩
          · have HX2 : Hid (lNum most (s.data.toList.drop n) = some (v, s.data.toList.drop (p + 1))) := by show _ = _; rw [HX1.out, if_neg hbig]
            have hbi : ¬ (most : Int) < v := by omega
            clear HX1
            go_wp2_with fail
            refine (one_any g p bn s wr hsp hps hbn hl).mono ?_
            rintro e w1 ⟨rfl, hsp1, hk1⟩
            go_wp2_with fail
            go_ret
            exact ⟨v, ret_i64 hv, by omega, hk.trans hk1, outc_yes HX2.out ⟨rfl, p + 1, by omega, hsp1, rfl⟩⟩
        · have HX1 : Hid (lF most (5 - (i + 1)) (i + 1) v (s.data.toList.drop (p + 1)) = lNum most (s.data.toList.drop n)) := by show _ = _; rw [HX.out, if_neg h128]
          have hi128 : ¬ (bn : Int) < 128 := by omega
          clear HX h128
          go_wp2_with fail
          refine (one_any g p bn s wr hsp hps hbn hl).mono ?_
          rintro e w1 ⟨rfl, hsp1, hk1⟩
          go_wp2_with fail
          go_roundw
          case rel => exact ⟨i + 1, v, p + 1, cc, by omega, HCS.out, hvl, congrArg (Value.int .i64) hv, congrArg (Value.int .i64) HCC.out, by go_num, by omega, hsp1, hk.trans hk1, HX1.out⟩
          case measure => simp [intOf]; omega
      · rw [drop_nil hps] at HP
        have HX : Hid (lNum most (s.data.toList.drop n) = none) := by
          show _ = _
          rw [← HP.out, show 5 - i = (5 - (i + 1)) + 1 by omega]; rfl
        clear HP
        have hmm : m ≤ 268435456 := by omega
        by_cases hbig : most < m
        · have hbi : (most : Int) < m := by omega
          clear hbig
          go_wp2_with fail
          refine (one_no g p s false wr hsp hps (by omega)).mono ?_
          rintro e w1 ⟨rfl, hsp1, hk1⟩
          have hd2 : w1.cell? ⟨g, 2, none⟩ = some (.bool true) := hsp1.cell 2
          have hf := hsp1.frozen 2
          go_wp2_with fail
          go_ret
          exact ⟨0, rfl, Nat.zero_le _, (hk.trans hk1).set 2 _, outc_no HX.out ⟨p, by omega, hsp1.set 2 _⟩⟩
        · have hbi : ¬ (most : Int) < m := by omega
          go_wp2_with fail
          refine (one_no g p s false wr hsp hps (by omega)).mono ?_
          rintro e w1 ⟨rfl, hsp1, hk1⟩
          go_wp2_with fail
          go_ret
          exact ⟨m, rfl, by omega, hk.trans hk1, outc_no HX.out ⟨p, by omega, hsp1⟩⟩
    · have hi5 : i = 5 := by omega
      subst hi5
      have HN : Hid (lNum most (s.data.toList.drop n) = none) := by show _ = _; rw [← HP.out]; rfl
      have hf := hsp.frozen 2
      go_wp2_with fail
      go_ret
      exact ⟨0, rfl, Nat.zero_le _, hk.set 2 _, outc_no HN.out ⟨p, by omega, hsp.set 2 _⟩⟩

end Go.Proofs.YtkhenmpdlnhgjaaDoor
