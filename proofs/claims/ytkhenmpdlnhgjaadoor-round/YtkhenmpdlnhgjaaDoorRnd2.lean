import Derived.Test.YtkhenmpdlnhgjaaDoorRnd1
import Derived.Deep.DeepCutAuto
import Derived.Deep.CutBlock
import Derived.Deep.RegionWith
namespace Go.Proofs.YtkhenmpdlnhgjaaDoor
open Go.RowKit

def InR (c : Int) : Prop := -9223372036854775808 ≤ c ∧ c ≤ 9223372036854775807

set_option maxRecDepth 100000 in
set_option maxHeartbeats 4000000 in
theorem round_any (ra ta : Option Addr) (nr nt cr ct : Nat) (raw : List Int) (texts : List ByteArray) (ka kb : Int) (et : TypeId) (ev : Value) (w : World) (hr : IntsAt w ra nr raw) (hrw : ∀ k ∈ raw, InR k) (ht : StrsAt w ta nt texts)
    (hnr : nr ≤ 17592186044416) (_hnt : nt ≤ 8796093022208) (hts : ∀ s ∈ texts, s.size ≤ 140737488355328) (hka : InR ka) (hkb : InR kb) (hE : w.cell? ⟨0, 0, none⟩ = some (.iface et ev)) :
    Calls Tryd.prog 4 #[.slice ra nr cr, .slice ta nt ct, .int .i64 ka, .int .i64 kb] w fun e w' => e = .returned (.bool true) ∧ Ext w w' := by
  go_enter Tryd.func4, Tryd.ntmps4
  go_upto_block 0 with fail
  go_cut [9] (fun v wx => ∃ code : List Ins, code.length ≤ 59 ∧ (∀ x ∈ code, okIns x = true) ∧ wx.ownsRow w.heap.size 36 3 v code.length (codes code) ∧ Ext w wx)
  case first =>
    clear hE ht hts hka hkb _hnt
    rename_i Q1 K1 aK1 J1 K2 aJ1 aM1
    clear aK1
    go_wp2_with fail
    go_loopw [9, 10] (fun v i wr => ∃ (p : Nat) (code : List Ins), p ≤ nr ∧ i = .int .i64 p ∧ code.length ≤ 59 ∧ (∀ x ∈ code, okIns x = true) ∧ wr.ownsRow w.heap.size 36 3 v code.length (codes code) ∧ Ext w wr) (fun _ i _ => nr - (intOf i).toNat)
    case atStart => exact ⟨0, [], Nat.zero_le _, rfl, by simp, by simp, World.ownsRow_nil _ _ _ _, Ext.refl w⟩
    case round =>
      obtain ⟨p, code, hp, rfl, hcl, hok, hown, hxw⟩ := hrel
      obtain ⟨a, m, c, rfl⟩ := ownsSlice hown
      have hm := (codeAt_of_owns hown rfl).1
      subst hm
      have HOK := hide hok
      clear hok
      by_cases h1 : p + 2 < nr
      · by_cases h2 : code.length < 59
        · obtain ⟨b, o, rfl, hc0⟩ := hr.2 p (by omega)
          obtain ⟨b', o', hb', hc1⟩ := hr.2 (p + 1) (by omega)
          cases hb'
          obtain ⟨b', o', hb', hc2⟩ := hr.2 (p + 2) (by omega)
          cases hb'
          have hrl := hr.1
          have hget : ∀ j, j < nr → InR (raw.getD j 0) := fun j hj => by
            have : raw.getD j 0 ∈ raw := by simp [List.getD, show j < raw.length by omega]
            exact hrw _ this
          have r0 := hget p (by omega)
          have r1 := hget (p + 1) (by omega)
          have r2 := hget (p + 2) (by omega)
          generalize raw.getD p 0 = x0 at hc0 r0
          generalize raw.getD (p + 1) 0 = x1 at hc1 r1
          generalize raw.getD (p + 2) 0 = x2 at hc2 r2
          have q0 := fun w' (h : Ext w w') => h.cell hc0
          have q1 := fun w' (h : Ext w w') => h.cell hc1
          have q2 := fun w' (h : Ext w w') => h.cell hc2
          have hk0 : ∀ w' : World, Calls Tryd.prog 9 #[.int .i64 x0, .int .i64 256] w' fun e w'' => e = .returned (.int .i64 (pk x0 256)) ∧ w'' = w' := fun w' => pick_any x0 256 w' r0.1 r0.2 (by omega) (by omega)
          have hk1 : ∀ w' : World, Calls Tryd.prog 9 #[.int .i64 x1, .int .i64 2147483648] w' fun e w'' => e = .returned (.int .i64 (pk x1 2147483648)) ∧ w'' = w' := fun w' => pick_any x1 2147483648 w' r1.1 r1.2 (by omega) (by omega)
          have hk2 : ∀ w' : World, Calls Tryd.prog 9 #[.int .i64 x2, .int .i64 2147483648] w' fun e w'' => e = .returned (.int .i64 (pk x2 2147483648)) ∧ w'' = w' := fun w' => pick_any x2 2147483648 w' r2.1 r2.2 (by omega) (by omega)
          have HK0 := hide hk0
          have HK1 := hide hk1
          have HK2 := hide hk2
          clear hk0 hk1 hk2
          have b0 := pk_bd x0 (n := 256) (by omega)
          have b1 := pk_bd x1 (n := 2147483648) (by omega)
          have b2 := pk_bd x2 (n := 2147483648) (by omega)
          generalize pk x0 256 = y0 at HK0 b0
          generalize pk x1 2147483648 = y1 at HK1 b1
          generalize pk x2 2147483648 = y2 at HK2 b2
          clear hc0 hc1 hc2 hget hrl
          have hw1 : IntKind.i64.wrap ((p : Int) + 1) = ((p + 1 : Nat) : Int) := by rw [IntKind.wrap_i64]; omega
          have hw2 : IntKind.i64.wrap ((p : Int) + 2) = ((p + 2 : Nat) : Int) := by rw [IntKind.wrap_i64]; omega
          have hi1 : p + 1 < nr := by omega
          have hi0 : p < nr := by omega
          clear hr hrw r0 r1 r2
          have hrow : ∀ n, Value.ownBlock (.slice a code.length c) = some n → w.heap.size ≤ n := fun n hn => (World.ownsRow.lt hown n hn).1
          have HNX : Hid (∀ x ∈ code ++ [(y0, y1, y2)], okIns x = true) := by
            show ∀ x ∈ code ++ [(y0, y1, y2)], okIns x = true
            intro x hx
            rcases List.mem_append.1 hx with h | h
            · exact HOK.out x h
            · simp only [List.mem_singleton] at h
              subst h
              unfold okIns fit
              simp only [Bool.and_eq_true, decide_eq_true_eq]
              omega
          have hwsz := hxw.size
          clear b0 b1 b2
          go_upto_block 1 with fail
          go_cut [9] (fun v wx => wx.ownsRow w.heap.size 36 3 v (code.length + 1) (codes code ++ [.int .i64 y0, .int .i64 y1, .int .i64 y2]) ∧ Ext w wx)
          case first =>
            go_wp2_with fail
            go_region_held_law (fun w' => Ext w w') (first | exact Ext.drew hxw | assumption | exact Ext.alloc (by assumption) _ | exact Ext.grown (by assumption) (by assumption) hrow | fail) (first
              | (refine step_append_lies (o := ⟨some 56, _, _, _, _, none⟩) _ rfl _ _ 33 rfl w.heap.size 36 Tryd.t36 (.agg #[.int .i64 0, .int .i64 0, .int .i64 0]) 3 24 Tryd.underlying33 info_ins (by kernel_rfl) (by kernel_rfl) (by kernel_rfl) (by kernel_rfl) (by omega) (.slice a code.length c) code.length (codes code) rfl (ownsExt hown (((Ext.refl wr).drew).alloc _)) ⟨wr.heap.size, 0, none⟩ 1 1 [.int .i64 y0, .int .i64 y1, .int .i64 y2] rfl (by simp) (cell_three wr.drew _ _ _ _) (by simp [Value.oneCell']) (by omega) (by unfold maxLen; omega) (by omega) (by simp; omega) _ rfl ?_; intro g1 cap1 w1 hown1 hgrow hat hlt1; clear hat hlt1)
              | (go_at_call_of 9 (Value.int .i64 x0); refine (HK0.out _).mono ?_; rintro e w' ⟨rfl, rfl⟩)
              | (go_at_call_of 9 (Value.int .i64 x1); refine (HK1.out _).mono ?_; rintro e w' ⟨rfl, rfl⟩)
              | (go_at_call_of 9 (Value.int .i64 x2); refine (HK2.out _).mono ?_; rintro e w' ⟨rfl, rfl⟩))
            all_goals (go_wp2_with fail; go_meet; exact ⟨hown1, by assumption⟩)
          case rest =>
            obtain ⟨hown1, hx1⟩ := hcut
            go_wp2_with fail
            go_roundw
            case rel =>
              refine ⟨p + 3, code ++ [(y0, y1, y2)], by omega, by go_num, by simp; omega, HNX.out, ?_, hx1⟩
              have e : codes (code ++ [(y0, y1, y2)]) = codes code ++ [.int .i64 y0, .int .i64 y1, .int .i64 y2] := by simp [codes]
              rw [e, List.length_append]; exact hown1
            case measure => simp [intOf]; omega
        · go_wp2_with fail
          go_meet
          exact ⟨code, hcl, HOK.out, hown, hxw⟩
      · go_wp2_with fail
        go_meet
        exact ⟨code, hcl, HOK.out, hown, hxw⟩
  case rest =>
    obtain ⟨code, hcl, hok, hown, hx0⟩ := hcut
    have HOK := hide hok
    have h00 : 0 < w.heap.size := lt_of_cell hE
    clear hr hrw hok
    obtain ⟨a, m, c, rfl⟩ := ownsSlice hown
    have hm := (codeAt_of_owns hown rfl).1
    subst hm
    have hx1 := (Ext.refl wc).alloc (.cells #[.int .i64 8, .int .i64 0, .int .i64 0] 36)
    have hwsz := hx0.size
    go_upto_block 2 with (at_builtin; refine wpList_append_own _ rfl _ _ 33 rfl w.heap.size 36 Tryd.t36 (.agg #[.int .i64 0, .int .i64 0, .int .i64 0]) 3 24 Tryd.underlying33 info_ins (by kernel_rfl) (by kernel_rfl) (by kernel_rfl) (by kernel_rfl) (by omega) _ code.length (codes code) rfl (ownsExt hown hx1) ⟨wc.heap.size, 0, none⟩ 1 1 [.int .i64 8, .int .i64 0, .int .i64 0] rfl (by simp) (cell_three wc _ _ _ _) (by simp [Value.oneCell']) (by unfold maxLen; omega) (by omega) (Nat.le_trans hwsz hx1.size) ?_; intro v2 w2 ho2 hg2' hn2; obtain ⟨a2, n2, c2, rfl⟩ := ownsSlice ho2; have hg2 : (wc.alloc (.cells #[.int .i64 8, .int .i64 0, .int .i64 0] 36)).grownBy w2 (Value.ownBlock (.slice a code.length c)) := hg2'; clear hg2' hn2)
    have hx2 : Ext w w2 := Ext.grown (hx0.trans hx1) hg2 (fun n hn => (World.ownsRow.lt hown n hn).1)
    obtain ⟨cod, hcod⟩ : ∃ cod : List Ins, cod = code ++ [(8, 0, 0)] := ⟨_, rfl⟩
    have hC2 : w2.ownsRow w.heap.size 36 3 (.slice a2 n2 c2) cod.length (codes cod) := by
      have e : codes cod = codes code ++ [.int .i64 8, .int .i64 0, .int .i64 0] := by rw [hcod]; simp [codes]
      rw [e, hcod, List.length_append]; exact ho2
    have HCO : Hid (∀ x ∈ cod, okIns x = true) := by
      show ∀ x ∈ cod, okIns x = true
      rw [hcod]
      intro x hx
      rcases List.mem_append.1 hx with h | h
      · exact HOK.out x h
      · simp only [List.mem_singleton] at h
        subst h; rfl
    have hc1 : 1 ≤ cod.length := by rw [hcod]; simp
    have hc60 : cod.length ≤ 60 := by rw [hcod]; simp; omega
    have hn2 := (codeAt_of_owns hC2 rfl).1
    subst hn2
    clear hcod ho2 hg2 hown hx1 hx0 hwsz HOK hcl
    go_cut [11] (fun v wx => ∃ l : List ByteArray, l.length ≤ 20 ∧ (∀ t ∈ l, t.size ≤ 60) ∧ wx.ownsRow w.heap.size 9 1 v l.length (strs l) ∧ wx.ownsRow w.heap.size 36 3 (.slice a2 cod.length c2) cod.length (codes cod) ∧ Ext w wx)
    case first =>
      go_wp2_with fail
      go_loopw [11, 12] (fun v i wr => ∃ (k : Nat) (l : List ByteArray), k ≤ nt ∧ k ≤ 20 ∧ i = .int .i64 k ∧ l.length = k ∧ (∀ t ∈ l, t.size ≤ 60) ∧ wr.ownsRow w.heap.size 9 1 v l.length (strs l) ∧ wr.ownsRow w.heap.size 36 3 (.slice a2 cod.length c2) cod.length (codes cod) ∧ Ext w wr) (fun _ i _ => 20 - (intOf i).toNat)
      case atStart => exact ⟨0, [], Nat.zero_le _, Nat.zero_le _, rfl, rfl, by simp, World.ownsRow_nil _ _ _ _, hC2, hx2⟩
      case round =>
        obtain ⟨k, l, hk, hk20, rfl, hll, hls, hown, hC, hxw⟩ := hrel
        have HLL := hide hll
        have HLS := hide hls
        clear hC2 hx2 hll hls
        obtain ⟨b1, n1, c1, rfl⟩ := ownsSlice hown
        by_cases h1 : k < nt
        · by_cases h2 : k < 20
          · obtain ⟨b, o, rfl, hc⟩ := ht.2 k h1
            have htl := ht.1
            have hsz : (texts.getD k ByteArray.empty).size ≤ 140737488355328 := hts _ (by simp [List.getD, show k < texts.length by omega])
            generalize texts.getD k ByteArray.empty = t at hc hsz
            have hc' := hxw.cell hc
            have hrow : ∀ n, Value.ownBlock (.slice b1 n1 c1) = some n → w.heap.size ≤ n := fun n hn => (World.ownsRow.lt hown n hn).1
            have hwsz := hxw.size
            rw [HLL.out] at hown
            clear htl hc
            by_cases h60 : t.size ≤ 60
            · have hi : ¬ (60 : Int) < t.size := by omega
              have hx3 := (Ext.refl wr).alloc (.cells #[.string t] 9)
              go_wp2_with (at_builtin; refine wpList_append_own _ rfl _ _ 24 rfl w.heap.size 9 Tryd.t9 (.string ByteArray.empty) 1 16 Tryd.underlying24 info_string (by kernel_rfl) (by kernel_rfl) (by kernel_rfl) (by kernel_rfl) (by omega) _ k (strs l) rfl (ownsExt hown hx3) ⟨wr.heap.size, 0, none⟩ 1 1 [.string t] rfl (by simp) (cell_one wr _ _) (by simp [Value.oneCell']) (by unfold maxLen; omega) (by omega) (Nat.le_trans hwsz hx3.size) ?_; intro v3 w3 ho3 hg3' hn3; have hg3 : (wr.alloc (.cells #[.string t] 9)).grownBy w3 (Value.ownBlock (.slice b1 n1 c1)) := hg3'; clear hg3' hn3)
              have hxw3 := Ext.grown (hxw.trans hx3) hg3 hrow
              have hC3 := owns_type (ownsExt hC hx3) hg3 (ownsExt hown hx3) (by decide)
              go_roundw
              case rel =>
                refine ⟨k + 1, l ++ [t], by omega, by omega, by go_num, by simp [HLL.out], ?_, ?_, hC3, hxw3⟩
                · intro x hx
                  rcases List.mem_append.1 hx with h | h
                  · exact HLS.out x h
                  · simp at h; subst h; exact h60
                · have e : strs (l ++ [t]) = strs l ++ [.string t] := by simp [strs]
                  rw [e, List.length_append, HLL.out]; exact ho3
              case measure => simp [intOf]; omega
            · have hi : (60 : Int) < t.size := by omega
              have hcut60 : (60 : Int) ≤ t.size := by omega
              have hx3 := (Ext.refl wr).alloc (.cells #[.string (t.extract 0 60)] 9)
              have HT60 : Hid ((t.extract 0 60).size ≤ 60) := by show _ ≤ _; rw [ByteArray.size_extract]; omega
              go_wp2_with (at_builtin; refine wpList_append_own _ rfl _ _ 24 rfl w.heap.size 9 Tryd.t9 (.string ByteArray.empty) 1 16 Tryd.underlying24 info_string (by kernel_rfl) (by kernel_rfl) (by kernel_rfl) (by kernel_rfl) (by omega) _ k (strs l) rfl (ownsExt hown hx3) ⟨wr.heap.size, 0, none⟩ 1 1 [.string (t.extract 0 60)] rfl (by simp) (cell_one wr _ _) (by simp [Value.oneCell']) (by unfold maxLen; omega) (by omega) (Nat.le_trans hwsz hx3.size) ?_; intro v3 w3 ho3 hg3' hn3; have hg3 : (wr.alloc (.cells #[.string (t.extract 0 60)] 9)).grownBy w3 (Value.ownBlock (.slice b1 n1 c1)) := hg3'; clear hg3' hn3)
              have hxw3 := Ext.grown (hxw.trans hx3) hg3 hrow
              have hC3 := owns_type (ownsExt hC hx3) hg3 (ownsExt hown hx3) (by decide)
              go_roundw
              case rel =>
                refine ⟨k + 1, l ++ [t.extract 0 60], by omega, by omega, by go_num, by simp [HLL.out], ?_, ?_, hC3, hxw3⟩
                · intro x hx
                  rcases List.mem_append.1 hx with h | h
                  · exact HLS.out x h
                  · simp at h; subst h; exact HT60.out
                · have e : strs (l ++ [t.extract 0 60]) = strs l ++ [.string (t.extract 0 60)] := by simp [strs]
                  rw [e, List.length_append, HLL.out]; exact ho3
              case measure => simp [intOf]; omega
          · go_wp2_with fail
            go_meet
            exact ⟨l, by have := HLL.out; omega, HLS.out, hown, hC, hxw⟩
        · go_wp2_with fail
          go_meet
          exact ⟨l, by have := HLL.out; omega, HLS.out, hown, hC, hxw⟩
    case rest =>
      obtain ⟨l, hll, hls, hL, hC, hxw⟩ := hcut
      clear hC2 hx2 ht hts
      have HLS := hide hls
      clear hls
      obtain ⟨la, ln, lc, rfl⟩ := ownsSlice hL
      have hln := (strsAt_of_owns hL rfl).1
      subst hln
      have hSt := (strsAt_of_owns hL rfl).2.2
      have hCo := (codeAt_of_owns hC rfl).2
      have hcap : 1 ≤ c2 := Nat.le_trans hc1 (owns_le hC)
      clear hL hC
      go_wp2_with fail
      obtain ⟨W3, HW⟩ : ∃ W3, Hid (W3 = (wc.alloc (.cells #[.int .i64 1, .int .i64 0] 3)).alloc (.cells #[.string ⟨#[111, 110, 101]⟩, .slice (some ⟨wc.heap.size, 0, none⟩) 2 2, .slice a2 cod.length c2, .string ⟨#[116, 119, 111]⟩, .slice none 0 0, .slice a2 1 c2] 41)) := ⟨_, rfl⟩
      have hx3 : Ext wc W3 := by rw [HW.out]; exact ((Ext.refl wc).alloc _).alloc _
      have hI3 : OwnRow W3 wc.heap.size (ints [1, 0]) 3 := by
        rw [HW.out]
        exact OwnRow.ext (OwnRow.alloc wc [.int .i64 1, .int .i64 0] 3) ((Ext.refl _).alloc _)
      have hP3 : OwnRow W3 (wc.heap.size + 1) [.string ⟨#[111, 110, 101]⟩, .slice (some ⟨wc.heap.size, 0, none⟩) 2 2, .slice a2 cod.length c2, .string ⟨#[116, 119, 111]⟩, .slice none 0 0, .slice a2 1 c2] 41 := by
        rw [HW.out]
        have := OwnRow.alloc (wc.alloc (.cells #[.int .i64 1, .int .i64 0] 3)) [.string ⟨#[111, 110, 101]⟩, .slice (some ⟨wc.heap.size, 0, none⟩) 2 2, .slice a2 cod.length c2, .string ⟨#[116, 119, 111]⟩, .slice none 0 0, .slice a2 1 c2] 41
        simpa using this
      rw [← HW.out]
      clear HW
      have hPh3 : PhrasesAt W3 (some ⟨wc.heap.size + 1, 0, none⟩) 2 (rPk l cod).phrases := by
        refine ⟨rfl, fun i hi => ⟨wc.heap.size + 1, 0, rfl, ?_⟩⟩
        have k0 := hP3.cell 0
        have k1 := hP3.cell 1
        have k2 := hP3.cell 2
        have k3 := hP3.cell 3
        have k4 := hP3.cell 4
        have k5 := hP3.cell 5
        have hz : i = 0 ∨ i = 1 := by omega
        rcases hz with rfl | rfl
        · exact ⟨_, _, _, _, k0, k1, k2, IntsAt.of_row hI3 rfl, hCo.ext hx3, by simp [rPk], by simp [rPk]; omega, by show (3 : Nat) ≤ _; omega⟩
        · have hc1' := (hCo.ext hx3).one hc1
          have e1 : (cod.take 1).length = 1 := by simp; omega
          refine ⟨none, 0, a2, c2, k3, k4, ?_, ⟨rfl, fun i hi => absurd hi (Nat.not_lt_zero _)⟩, ?_, by simp [rPk], by simp [rPk]; omega, by show (3 : Nat) ≤ _; omega⟩
          · show W3.cell? ⟨wc.heap.size + 1, 5, none⟩ = some (.slice a2 (cod.take 1).length c2)
            rw [e1]; exact k5
          · show CodeAt W3 a2 (cod.take 1).length (cod.take 1)
            rw [e1]; exact hc1'
      have hxw3 := hxw.trans hx3
      have HEN := hide (rEnc hll HLS.out hc1 hc60 HCO.out)
      have HOKP := hide (rOk hll HLS.out hc1 hc60 HCO.out)
      refine (encode_any la (some ⟨wc.heap.size + 1, 0, none⟩) l.length 2 lc 2 (rPk l cod) W3 (hSt.ext hx3) hPh3 (by omega) (by omega) (by omega) (fun x hx => by have := HLS.out x hx; omega)).mono ?_
      rintro e w4 ⟨rfl, hx4⟩
      rw [encRes_yes HEN.out]
      have hSt4 := (hSt.ext hx3).ext hx4
      have hCo4 := (hCo.ext hx3).ext hx4
      have hxw4 := hxw3.trans hx4
      have HLE : Hid ((packB (rPk l cod)).length ≤ 4000) := by
        have := HEN.out
        unfold encOk at this
        simp only [Bool.and_eq_true, decide_eq_true_eq] at this
        exact this.2
      have hE4 := hxw4.cell hE
      have HPP := hide (pPack_complete HOKP.out)
      clear hSt hCo hx3 hI3 hP3 hPh3 hxw hxw3 hx4 hE hcap HEN HOKP
      obtain ⟨bs, hbs⟩ : ∃ bs, bs = packB (rPk l cod) := ⟨_, rfl⟩
      rw [← hbs] at HLE HPP ⊢
      have HBS := hide hbs
      clear hbs
      have HDO : Hid (decOf bs = some (rPk l cod)) := by show _ = _; unfold decOf; rw [if_pos HLE.out]; exact HPP.out
      go_wp2_with fail
      refine (decode_any bs et ev w4 (by have := HLE.out; omega) hE4).mono ?_
      intro e w5 hO
      obtain ⟨v, rfl, hpk, hz, hx5⟩ := hO.yes HDO.out
      obtain ⟨sa, cs, ap, cp, rfl, hS5, hQ5⟩ := hpk.lists hz
      have hSt5 := hSt4.ext hx5
      have hCo5 := hCo4.ext hx5
      have hxw5 := hxw4.trans hx5
      have hE5 := hx5.cell hE4
      clear hO hpk hz hSt4 hCo4 hx5 hxw4 hE4
      have e1 : (rPk l cod).strings.length = l.length := rfl
      have e2 : (rPk l cod).phrases.length = 2 := rfl
      have e3 : (rPk l cod).strings = l := rfl
      rw [e1, e3] at hS5
      rw [e2] at hQ5
      rw [e1, e2]
      obtain ⟨b0, o0, rfl, hq0⟩ := hQ5.2 0 (by omega)
      obtain ⟨b0', o0', hb', hq1⟩ := hQ5.2 1 (by omega)
      cases hb'
      obtain ⟨aa, ca, ac, cc, hc0, hcc1, hcc2, hia, hca, _, _, _⟩ := hq0
      obtain ⟨_, _, _, _, hd0, _⟩ := hq1
      obtain ⟨ba, oa, rfl, hi0⟩ := hia.2 0 (by show 0 < 2; omega)
      simp only [rPk, List.getD_cons_zero, List.getD_cons_succ, List.length_cons, List.length_nil, Nat.zero_mul, Nat.one_mul, Nat.add_zero, Nat.zero_add, Nat.reduceAdd] at hc0 hcc1 hcc2 hd0 hi0 hca
      clear hQ5 hia
      go_upto_region 17 with fail
      obtain ⟨W6, HW⟩ : ∃ W6, Hid (W6 = w5.alloc (.cells #[.slice sa l.length cs, .slice (some ⟨b0, o0, none⟩) 2 cp] 27)) := ⟨_, rfl⟩
      have hx6 : Ext w5 W6 := by rw [HW.out]; exact (Ext.refl w5).alloc _
      have hp6 : OwnRow W6 w5.heap.size [.slice sa l.length cs, .slice (some ⟨b0, o0, none⟩) 2 cp] 27 := by rw [HW.out]; exact OwnRow.alloc w5 [.slice sa l.length cs, .slice (some ⟨b0, o0, none⟩) 2 cp] 27
      rw [← HW.out]
      clear HW
      generalize w5.heap.size = pb at hp6 ⊢
      have p0 : W6.cell? ⟨pb, 0, none⟩ = some (.slice sa l.length cs) := hp6.cell 0
      have p1 : W6.cell? ⟨pb, 1, none⟩ = some (.slice (some ⟨b0, o0, none⟩) 2 cp) := hp6.cell 1
      have k0 := hx6.cell hc0
      have k1 := hx6.cell hcc1
      have k2 := hx6.cell hcc2
      have k3 := hx6.cell hd0
      have k4 := hx6.cell hi0
      have hca6 := hca.ext hx6
      have hS6 := hS5.ext hx6
      have hSt6 := hSt5.ext hx6
      have hCo6 := hCo5.ext hx6
      have hxw6 := hxw5.trans hx6
      have hE6 := hx6.cell hE5
      have hn1 : (!(nOne.toList == [111, 110, 101])) = false := by unfold nOne; rw [ByteArray.toList_eq]; rfl
      have hn2 : (!(nTwo.toList == [116, 119, 111])) = false := by unfold nTwo; rw [ByteArray.toList_eq]; rfl
      clear hc0 hcc1 hcc2 hd0 hi0 hca hS5 hSt5 hCo5 hxw5 hE5 hx6 e1 e2 e3
      go_upto_block 4 with fail
      clear k0 k1 k3 k4 hn1 hn2 HDO
      go_wp2_with fail
      go_loopw [18] (fun i wr => ∃ k : Nat, k ≤ l.length ∧ i = .int .i64 k ∧ Ext W6 wr) (fun i _ => l.length - (intOf i).toNat)
      case atStart => exact ⟨0, Nat.zero_le _, rfl, Ext.refl W6⟩
      case round =>
        obtain ⟨k, hk, rfl, hext⟩ := hrel
        have p0' := hext.cell p0
        by_cases hlt : k < l.length
        · obtain ⟨bx, ox, rfl, hcx⟩ := (hS6.ext hext).2 k hlt
          obtain ⟨by', oy, rfl, hcy⟩ := (hSt6.ext hext).2 k hlt
          generalize l.getD k ByteArray.empty = x at hcx hcy
          go_wp2_with fail
          go_quiet (fail)
          go_wp2_with fail
          go_roundw
          case rel => exact ⟨k + 1, by omega, by go_num, hext.trans (Ext.drewN _ _)⟩
          case measure => simp [intOf]; omega
        · have hkn : k = l.length := by omega
          subst hkn
          have p1' := hext.cell p1
          have k2' := hext.cell k2
          have hca7 := hca6.ext hext
          have hCo7 := hCo6.ext hext
          have hxw7 := hxw6.trans hext
          have hE7 := hext.cell hE6
          clear p0 p1 k2 hca6 hCo6 hxw6 hE6 hS6 hSt6 p0' hext hp6
          go_upto_block 6 with fail
          go_wp2_with fail
          go_loopw [19] (fun i wx => ∃ k : Nat, k ≤ cod.length ∧ i = .int .i64 k ∧ Ext wr wx) (fun i _ => cod.length - (intOf i).toNat)
          case atStart => exact ⟨0, Nat.zero_le _, rfl, Ext.refl wr⟩
          case round =>
            rename_i W7
            obtain ⟨k, hk, rfl, hext⟩ := hrel
            have p1'' := hext.cell p1'
            have k2'' := hext.cell k2'
            by_cases hlt : k < cod.length
            · obtain ⟨bx, ox, rfl, hx0, hx1, hx2⟩ := (hca7.ext hext).2 k hlt
              obtain ⟨by', oy, rfl, hy0, hy1, hy2⟩ := (hCo7.ext hext).2 k hlt
              generalize cod.getD k (0, 0, 0) = x at hx0 hx1 hx2 hy0 hy1 hy2
              obtain ⟨z0, z1, z2⟩ := x
              go_wp2_with fail
              go_quiet (fail)
              go_wp2_with fail
              go_roundw
              case rel => exact ⟨k + 1, by omega, by go_num, hext.trans (Ext.drewN _ _)⟩
              case measure => simp [intOf]; omega
            · have hkn : k = cod.length := by omega
              subst hkn
              have hxw8 := hxw7.trans hext
              have hE8 := hext.cell hE7
              clear p1' k2' hca7 hCo7 hxw7 hE7 p1'' k2'' hext
              obtain ⟨cp8, W8, hcv, hx9, hcp, hgl, hcell, hfrz⟩ := conv_str wr bs
              have hpos : 0 < bs.length := by
                rw [HBS.out]
                unfold packB
                have : (sumB (bodyB (rPk l cod))).length = 2 := rfl
                rw [List.length_append]
                omega
              have hbl := HLE.out
              go_wp2_with fail
              refine (pick_any ka bs.length W8 hka.1 hka.2 hpos (by omega)).mono ?_
              rintro e w9 ⟨rfl, hw9⟩
              rw [hw9]
              clear hw9
              have hbd := pk_bd ka hpos
              obtain ⟨kn, hkn⟩ : ∃ kn : Nat, pk ka bs.length = kn := ⟨(pk ka bs.length).toNat, by omega⟩
              rw [hkn] at hbd ⊢
              have hklt : kn < bs.length := by omega
              have hbd2 := pk_bd kb (n := 255) (by omega)
              obtain ⟨d, hd⟩ : ∃ d : Nat, pk kb 255 = d := ⟨(pk kb 255).toNat, by omega⟩
              have hk9 : ∀ w' : World, Calls Tryd.prog 9 #[.int .i64 kb, .int .i64 255] w' fun e w'' => e = .returned (.int .i64 (d : Int)) ∧ w'' = w' := fun w' => by
                have := pick_any kb 255 w' hkb.1 hkb.2 (by omega) (by omega)
                rw [hd] at this; exact this
              have HK9 := hide hk9
              rw [hd] at hbd2
              have hdl : d < 255 := by omega
              have hc := hcell kn hklt
              have hf := hfrz kn hklt
              have HV := hide (turned_val bs[kn] d)
              have HNE := hide (turned_ne bs[kn] hdl)
              clear hk9 hd hkn hbd hbd2 hka hkb
              have hlow : w.heap.size ≤ wr.heap.size := hxw8.size
              generalize wr.heap.size = g at hcv hcell hfrz hc hf hgl hlow ⊢
              have hxw9 := hxw8.trans hx9
              have hE9 := hx9.cell hE8
              clear hcv hx9 hE8 hxw8 hfrz
              generalize hbb : bs[kn].toNat = bb at hc HV
              go_wp2_with fail
              go_region_with (go_at_call 9; refine (HK9.out _).mono ?_; rintro e w9 ⟨rfl, rfl⟩)
              all_goals
                go_upto_region 32 with fail
                rw [HV.out]
                obtain ⟨x, hx⟩ : ∃ x, x = bs[kn] + UInt8.ofNat (1 + d) := ⟨_, rfl⟩
                have HNX : Hid (x ≠ bs[kn]) := by show x ≠ bs[kn]; rw [hx]; exact HNE.out
                rw [← hx]
                have hcs := cells_set (x := x) hklt hcell
                have hxw10 := Ext.drew (hxw9.setCell (b := g) (i := kn) hlow (.int .u8 (x.toNat : Int)))
                have hE10 : (W8.setCell ⟨g, kn, none⟩ (.int .u8 (x.toNat : Int))).drew.cell? ⟨0, 0, none⟩ = some (.iface et ev) := by
                  refine ((Ext.refl _).drew).cell ?_
                  rw [World.cell?_setCell_other]; exact hE9
                  simp
                have hcv2 := conv_cells (bs.set kn x) cp8 hcs
                have hl2 : (bs.set kn x).length = bs.length := List.length_set
                rw [hl2] at hcv2
                have HDN : Hid (decOf (bs.set kn x) = none) := by
                  show _ = _
                  unfold decOf
                  rw [hl2, if_pos HLE.out]
                  have hb := HBS.out
                  subst hb
                  exact pPack_set hklt HNX.out
                have HDE : Hid (decErr (bs.set kn x) = 2) := by show _ = _; unfold decErr; rw [hl2, if_pos HLE.out]
                clear hcs hcell hc hf hx HV HNE HNX hE9 hxw9
                generalize (W8.setCell ⟨g, kn, none⟩ (.int .u8 (x.toNat : Int))).drew = WF at hcv2 hxw10 hE10 ⊢
                generalize bs.set kn x = bs' at hcv2 hl2 HDN HDE
                go_wp2_with fail
                refine (decode_any bs' et ev WF (by omega) hE10).mono ?_
                intro e w10 hO
                obtain ⟨rfl, hx10⟩ := hO.no HDN.out
                rw [HDE.out]
                have hxf := (hxw10.trans hx10).alloc (.cells #[.slice none 0 0, .slice none 0 0] 27)
                unfold nilPk
                clear hO
                go_wp2_with fail
                go_ret
                exact ⟨rfl, hxf⟩

end Go.Proofs.YtkhenmpdlnhgjaaDoor
