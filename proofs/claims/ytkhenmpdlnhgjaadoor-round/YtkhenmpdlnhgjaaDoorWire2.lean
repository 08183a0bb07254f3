import Derived.Test.YtkhenmpdlnhgjaaDoorWire
namespace Go.Proofs.YtkhenmpdlnhgjaaDoor
open Go.RowKit

def aB (args : List Int) : List UInt8 := args.map fun k => UInt8.ofNat k.toNat
def iB (x : Ins) : List UInt8 := UInt8.ofNat x.1.toNat :: (uB x.2.1.toNat ++ uB x.2.2.toNat)
def cB (code : List Ins) : List UInt8 := code.flatMap iB
def pB (f : Phr) : List UInt8 := xB f.name ++ (uB f.args.length ++ (aB f.args ++ (uB f.code.length ++ cB f.code)))
theorem aB_succ {xs : List Int} {k : Nat} (h : k < xs.length) : aB (xs.take (k + 1)) = aB (xs.take k) ++ [UInt8.ofNat (xs.getD k 0).toNat] := by
  rw [take_succ_getD h (d := 0)]; simp [aB]
theorem cB_succ {xs : List Ins} {k : Nat} (h : k < xs.length) : cB (xs.take (k + 1)) = cB (xs.take k) ++ iB (xs.getD k (0, 0, 0)) := by
  rw [take_succ_getD h (d := (0, 0, 0))]; simp [cB]
theorem aB_le (xs : List Int) (k : Nat) : (aB (xs.take k)).length ≤ (aB xs).length := by simp [aB]; omega
theorem cB_split (xs : List Ins) (k : Nat) : cB xs = cB (xs.take k) ++ cB (xs.drop k) := by
  have h := List.take_append_drop k xs
  have e : cB (xs.take k ++ xs.drop k) = cB (xs.take k) ++ cB (xs.drop k) := by unfold cB; rw [List.flatMap_append]
  rw [h] at e; exact e
theorem cB_le (xs : List Ins) (k : Nat) : (cB (xs.take k)).length ≤ (cB xs).length := by rw [cB_split xs k, List.length_append]; omega
theorem fit_bd {x m : Int} (h : fit x m = true) : 0 ≤ x ∧ x ≤ m := by simpa [fit] using h

set_option maxHeartbeats 1000000 in
theorem addPhrase_any (B : Nat) (v : Value) (bs : List UInt8) (aa ac : Option Addr) (ca cc : Nat) (f : Phr) (w : World) (h : Buf B w v bs) (hB : B ≤ w.heap.size)
    (ha : ∀ w', Below B w w' → IntsAt w' aa f.args.length f.args) (hc : ∀ w', Below B w w' → CodeAt w' ac f.code.length f.code) (hok : okPhr f = true) (hl : bs.length + (pB f).length ≤ 140737488355328) :
    Calls Tryd.prog 36 #[v, .agg #[.string f.name, .slice aa f.args.length ca, .slice ac f.code.length cc]] w fun e w' => ∃ v', e = .returned v' ∧ Buf B w' v' (bs ++ pB f) ∧ Onto w v w' v' := by
  obtain ⟨nm, args, code⟩ := f
  simp only at ha hc ⊢
  have HP : Hid (pB ⟨nm, args, code⟩ = xB nm ++ (uB args.length ++ (aB args ++ (uB code.length ++ cB code)))) := rfl
  have hok' := hok
  unfold okPhr okArgs okCode at hok'
  simp only [Bool.and_eq_true, decide_eq_true_eq] at hok'
  obtain ⟨k1, k2, ⟨k3, k4⟩, k5, k6, k7⟩ := hok'
  have HA := hide k4
  have HC := hide k7
  have HL : Hid (bs.length + (xB nm).length + (uB args.length).length + (aB args).length + (uB code.length).length + (cB code).length ≤ 140737488355328) := by
    show _ ≤ _
    rw [HP.out] at hl; simp only [List.length_append] at hl; omega
  clear k4 k7 hl hok
  generalize hna : args.length = na at *
  generalize hnc : code.length = nc at *
  have HNA := hide hna
  have HNC := hide hnc
  clear hna hnc
  go_enter Tryd.func36, Tryd.ntmps36
  go_wp2_with fail
  obtain ⟨W1, HW⟩ : ∃ W1, Hid (W1 = w.alloc (.cells #[.string nm, .slice aa na ca, .slice ac nc cc] 41)) := ⟨_, rfl⟩
  have hx1 : Ext w W1 := by rw [HW.out]; exact (Ext.refl w).alloc _
  have hbox : OwnRow W1 w.heap.size [.string nm, .slice aa na ca, .slice ac nc cc] 41 := by rw [HW.out]; exact OwnRow.alloc w [.string nm, .slice aa na ca, .slice ac nc cc] 41
  have hne : some w.heap.size ≠ v.ownBlock := fun e => by have := (h.lt _ e.symm).2; omega
  rw [← HW.out]
  refine (addText_any B v bs nm W1 (h.ext hx1) (Nat.le_trans hB hx1.size) (by omega) (by have := HL.out; omega)).mono ?_
  rintro e w1 ⟨v1, rfl, hb1, ho1⟩
  have hcell1 := ho1.cell (hbox.cell 1) hne
  have hcell2 := ho1.cell (hbox.cell 2) hne
  have hne1 := ho1.ne hbox.lt hne
  have hB1 : B ≤ w1.heap.size := Nat.le_trans hB (Nat.le_trans hx1.size ho1.grown.size)
  go_wp2_with fail
  refine (addNumber_any B v1 _ na w1 hb1 hB1 (by omega) (by rw [List.length_append]; have := HL.out; omega)).mono ?_
  rintro e w2 ⟨v2, rfl, hb2, ho2⟩
  have hcell3 := ho2.cell hcell1 hne1
  have hcell4 := ho2.cell hcell2 hne1
  have hlt1 : w.heap.size < w1.heap.size := Nat.lt_of_lt_of_le hbox.lt ho1.grown.size
  have hne2 := ho2.ne hlt1 hne1
  have hlt2 : w.heap.size < w2.heap.size := Nat.lt_of_lt_of_le hlt1 ho2.grown.size
  have honto := ((Onto.of_ext (v := v) hx1).trans ho1).trans ho2
  have hlw : w1.heap.size ≤ w2.heap.size := ho2.grown.size
  clear hcell1 hcell2 hne1 hlt1 hb1 ho1 ho2 hbox hx1 HW hne
  go_wp2_with fail
  go_loopw [0, 21] (fun b i wr => ∃ k : Nat, k ≤ na ∧ i = .int .i64 k ∧ Buf B wr b (bs ++ xB nm ++ uB na ++ aB (args.take k)) ∧ Onto w2 v2 wr b) (fun _ i _ => na - (intOf i).toNat)
  case atStart => exact ⟨0, Nat.zero_le _, rfl, by simpa [aB] using hb2, Onto.refl _ _⟩
  case round =>
    obtain ⟨k, hk, rfl, hbuf, hon⟩ := hrel
    by_cases hlt : k < na
    · obtain ⟨b, o, rfl, hcell⟩ := (ha wr (h.below (honto.trans hon) hB)).2 k hlt
      have HK : Hid (k < args.length) := by show _ < _; rw [HNA.out]; exact hlt
      have hfit : fit (args.getD k 0) 1 = true := by
        have := HA.out
        rw [List.all_eq_true] at this
        exact this _ (by have := HK.out; simp [List.getD, this])
      have HN := hide (aB_succ HK.out)
      generalize args.getD k 0 = x at hcell hfit HN
      have hbd := fit_bd hfit
      clear hfit hcell3 hcell4
      obtain ⟨hx0, hx1⟩ := hbd
      have hy : (((UInt8.ofNat x.toNat).toNat : Nat) : Int) = x := by simp; omega
      have HS := hide (src_byteI wr (UInt8.ofNat x.toNat) x hy 1)
      have HLL : Hid ((bs ++ xB nm ++ uB na ++ aB (args.take k)).length + [UInt8.ofNat x.toNat].length ≤ 140737488355328) := by
        show _ ≤ _
        have h1 := HL.out
        have h2 := aB_le args (k + 1)
        rw [HN.out] at h2
        simp only [List.length_append] at h2 ⊢; omega
      have hBr : B ≤ wr.heap.size := Nat.le_trans hB1 (Nat.le_trans (Nat.le_trans (Nat.le_refl _) hlw) hon.grown.size)
      clear hy
      go_wp2_with (at_builtin; refine wpList_append_onto rfl _ _ _ rfl rfl (hbuf.ext ((Ext.refl wr).alloc _)) (Nat.le_trans hBr ((Ext.refl wr).alloc _).size) _ rfl [UInt8.ofNat x.toNat] HS.out HLL.out ?_; intro v3 w3 hb3 ho3)
      go_roundw
      case rel =>
        refine ⟨k + 1, by omega, by go_num, ?_, (hon.trans (Onto.of_ext ((Ext.refl wr).alloc _))).trans ho3⟩
        rw [HN.out, ← List.append_assoc]
        exact hb3
      case measure => simp [intOf]; omega
    · have hkn : k = na := by omega
      subst hkn
      have HT : Hid (args.take k = args) := List.take_of_length_le (by rw [HNA.out]; omega)
      rw [HT.out] at hbuf
      have hcell5 := hon.cell hcell4 hne2
      have hne3 := hon.ne hlt2 hne2
      have hBr : B ≤ wr.heap.size := Nat.le_trans hB1 (Nat.le_trans hlw hon.grown.size)
      clear hcell3 hcell4
      go_wp2_with fail
      refine (addNumber_any B _ _ nc wr hbuf hBr (by omega) (by simp only [List.length_append]; have := HL.out; omega)).mono ?_
      rintro e w4 ⟨v4, rfl, hb4, ho4⟩
      have hcell6 := ho4.cell hcell5 hne3
      have hon4 := (honto.trans hon).trans ho4
      have hB4 : B ≤ w4.heap.size := Nat.le_trans hBr ho4.grown.size
      clear hcell5 hne3 hne2 hbuf hon honto ho4 HT
      go_wp2_with fail
      go_loopw [0, 39] (fun b i wr => ∃ j : Nat, j ≤ nc ∧ i = .int .i64 j ∧ Buf B wr b (bs ++ xB nm ++ uB k ++ aB args ++ uB nc ++ cB (code.take j)) ∧ Onto w4 v4 wr b) (fun _ i _ => nc - (intOf i).toNat)
      case atStart => exact ⟨0, Nat.zero_le _, rfl, by simpa [cB] using hb4, Onto.refl _ _⟩
      case round =>
        obtain ⟨j, hj, rfl, hbuf, hon⟩ := hrel
        clear hcell6
        have hBr : B ≤ wr.heap.size := Nat.le_trans hB4 hon.grown.size
        by_cases hlj : j < nc
        · obtain ⟨b, o, rfl, hc0, hc1, hc2⟩ := (hc wr (h.below (hon4.trans hon) hB)).2 j hlj
          have HK : Hid (j < code.length) := by show _ < _; rw [HNC.out]; exact hlj
          have hins : okIns (code.getD j (0, 0, 0)) = true := by
            have := HC.out
            rw [List.all_eq_true] at this
            exact this _ (by have := HK.out; simp [List.getD, this])
          have HN := hide (cB_succ HK.out)
          generalize code.getD j (0, 0, 0) = x at hc0 hc1 hc2 hins HN
          obtain ⟨x0, x1, x2⟩ := x
          obtain ⟨q0, q1, q2⟩ := okIns_yes hins
          simp only at q0 q1 q2 hc0 hc1 hc2
          have hbd0 := fit_bd q0
          have hbd1 := fit_bd q1
          have hbd2 := fit_bd q2
          clear q0 q1 q2 hins
          obtain ⟨n0, rfl⟩ := Int.eq_ofNat_of_zero_le hbd0.1
          obtain ⟨n1, rfl⟩ := Int.eq_ofNat_of_zero_le hbd1.1
          obtain ⟨n2, rfl⟩ := Int.eq_ofNat_of_zero_le hbd2.1
          have HI : Hid (iB ((n0 : Int), (n1 : Int), (n2 : Int)) = UInt8.ofNat n0 :: (uB n1 ++ uB n2)) := by show _ = _; simp [iB]
          have HLL : Hid ((bs ++ xB nm ++ uB k ++ aB args ++ uB nc ++ cB (code.take j)).length + 1 + (uB n1).length + (uB n2).length ≤ 140737488355328) := by
            show _ ≤ _
            have h1 := HL.out
            have h2 := cB_le code (j + 1)
            rw [HN.out, HI.out] at h2
            simp only [List.length_append, List.length_cons] at h2 ⊢; omega
          have HNX : Hid (bs ++ xB nm ++ uB k ++ aB args ++ uB nc ++ cB (code.take (j + 1)) = bs ++ xB nm ++ uB k ++ aB args ++ uB nc ++ cB (code.take j) ++ [UInt8.ofNat n0] ++ uB n1 ++ uB n2) := by
            show _ = _
            rw [HN.out, HI.out]; simp
          generalize bs ++ xB nm ++ uB k ++ aB args ++ uB nc ++ cB (code.take j) = bj at hbuf HLL HNX
          have hneb : some wr.heap.size ≠ Value.ownBlock u0 := fun e => by have := (hbuf.lt _ e.symm).2; omega
          obtain ⟨C, HCC⟩ : ∃ C, Hid (C = Obj.cells #[.int .i64 (n0 : Int), .int .i64 (n1 : Int), .int .i64 (n2 : Int)] 36) := ⟨_, rfl⟩
          have hbx : OwnRow (wr.alloc C) wr.heap.size [.int .i64 (n0 : Int), .int .i64 (n1 : Int), .int .i64 (n2 : Int)] 36 := by rw [HCC.out]; exact OwnRow.alloc wr [.int .i64 (n0 : Int), .int .i64 (n1 : Int), .int .i64 (n2 : Int)] 36
          have hy : (((UInt8.ofNat n0).toNat : Nat) : Int) = (n0 : Int) := by simp; omega
          have hsz : (wr.alloc C).heap.size = wr.heap.size + 1 := by simp
          have HS := hide (src_byteI (wr.alloc C) (UInt8.ofNat n0) n0 hy 1)
          rw [hsz] at HS
          have HL1 : Hid (bj.length + [UInt8.ofNat n0].length ≤ 140737488355328) := by show _ ≤ _; have := HLL.out; simp only [List.length_singleton]; omega
          have hx2 : Ext wr ((wr.alloc C).alloc (.cells #[.int .u8 (n0 : Int)] 5)) := ((Ext.refl wr).alloc _).alloc _
          have hd1 := ((Ext.refl (wr.alloc C)).alloc (.cells #[.int .u8 (n0 : Int)] 5)).cell (hbx.cell 1)
          have hd2 := ((Ext.refl (wr.alloc C)).alloc (.cells #[.int .u8 (n0 : Int)] 5)).cell (hbx.cell 2)
          rw [HCC.out] at hx2 hd1 hd2 HS
          have HD1 := hide hd1
          have HD2 := hide hd2
          clear hy hsz hbx HCC hd1 hd2
          go_wp2_with (at_builtin; refine wpList_append_onto rfl _ _ _ rfl rfl (hbuf.ext hx2) (Nat.le_trans hBr hx2.size) _ rfl [UInt8.ofNat n0] HS.out HL1.out ?_; intro v5 w5 hb5 ho5; have he1 := ho5.cell HD1.out hneb; have he2 := ho5.cell HD2.out hneb)
          have hon5 : Onto w4 v4 w5 v5 := (hon.trans (Onto.of_ext hx2)).trans ho5
          have hne5 : some wr.heap.size ≠ v5.ownBlock := ho5.ne (Nat.lt_of_lt_of_le (lt_of_cell HD1.out) (Nat.le_refl _)) hneb
          have hB5 : B ≤ w5.heap.size := Nat.le_trans hB4 hon5.grown.size
          clear ho5 HD1 HD2 hx2 hbuf hon hneb he1
          refine (addNumber_any B v5 _ n1 w5 hb5 hB5 (by omega) (by rw [List.length_append, List.length_singleton]; have := HLL.out; omega)).mono ?_
          rintro e w6 ⟨v6, rfl, hb6, ho6⟩
          have he3 := ho6.cell he2 hne5
          have hB6 : B ≤ w6.heap.size := Nat.le_trans hB5 ho6.grown.size
          clear he2
          go_wp2_with fail
          refine (addNumber_any B v6 _ n2 w6 hb6 hB6 (by omega) (by simp only [List.length_append, List.length_singleton]; have := HLL.out; omega)).mono ?_
          rintro e w7 ⟨v7, rfl, hb7, ho7⟩
          clear he3
          go_wp2_with fail
          go_roundw
          case rel => exact ⟨j + 1, by omega, by go_num, by rw [HNX.out]; exact hb7, (hon5.trans ho6).trans ho7⟩
          case measure => simp [intOf]; omega
        · have hkn : j = nc := by omega
          subst hkn
          have HT : Hid (code.take j = code) := List.take_of_length_le (by rw [HNC.out]; omega)
          rw [HT.out] at hbuf
          go_wp2_with fail
          go_ret
          refine ⟨_, rfl, ?_, hon4.trans hon⟩
          rw [HP.out]
          simpa [List.append_assoc] using hbuf

end Go.Proofs.YtkhenmpdlnhgjaaDoor
