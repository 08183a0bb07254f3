import Derived.Test.YtkhenmpdlnhgjaaDoorRef
namespace Go.Proofs.YtkhenmpdlnhgjaaDoor
open Go.RowKit

theorem pB_eq (f : Phr) : pB f = xB f.name ++ uB f.args.length ++ aB f.args ++ uB f.code.length ++ cB f.code := by unfold pB; simp

theorem newcell (w : World) (v : Value) (t : TypeId) : (w.alloc (.cells #[v] t)).cell? ⟨w.heap.size, 0, none⟩ = some v := (OwnRow.alloc w [v] t).cell 0
theorem newcell_drew (w : World) (v : Value) (t : TypeId) : (w.alloc (.cells #[v] t)).drew.cell? ⟨w.heap.size, 0, none⟩ = some v := (OwnRow.alloc w [v] t).cell 0

set_option maxRecDepth 100000 in
set_option maxHeartbeats 2000000 in
theorem refBytes_any (sa ap : Option Addr) (ns np cs cp : Nat) (P : Pk) (w : World) (hs : StrsAt w sa ns P.strings) (hp : PhrasesAt w ap np P.phrases) (hok : okPack P = true) (hl : (bodyB P).length ≤ 140737488355000) :
    Calls Tryd.prog 14 #[.agg #[.slice sa ns cs, .slice ap np cp]] w fun e w' => e = .returned (.string ⟨(packB P).toArray⟩) ∧ Ext w w' := by
  have hok' := hok
  unfold okPack at hok'
  simp only [Bool.and_eq_true, decide_eq_true_eq] at hok'
  obtain ⟨k1, k2, k3, k4⟩ := hok'
  rw [hs.1] at k1
  rw [hp.1] at k2 k4
  have HST := hide k3
  have HOT := hide k4
  have HNS := hide hs.1
  have HNP := hide hp.1
  have HB : Hid (bodyB P = [80, 66, 1] ++ uB ns ++ sB P.strings ++ uB np ++ psB P.phrases) := by show _ = _; unfold bodyB; rw [hs.1, hp.1]
  have HL : Hid (3 + (uB ns).length + (sB P.strings).length + (uB np).length + (psB P.phrases).length ≤ 140737488355000) := by
    show _ ≤ _
    rw [HB.out] at hl; simp only [List.length_append, List.length_cons, List.length_nil] at hl; omega
  clear hl hok k3 k4
  have hm0 : ¬ 9223372036854775807 < 3 + (uB ns).length := by have := HL.out; omega
  go_enter Tryd.func14, Tryd.ntmps14
  go_wp2_with fail
  obtain ⟨W1, HW⟩ : ∃ W1, Hid (W1 = w.alloc (.cells #[.slice sa ns cs, .slice ap np cp] 27)) := ⟨_, rfl⟩
  have hx1 : Ext w W1 := by rw [HW.out]; exact (Ext.refl w).alloc _
  have hbox : OwnRow W1 w.heap.size [.slice sa ns cs, .slice ap np cp] 27 := by rw [HW.out]; exact OwnRow.alloc w [.slice sa ns cs, .slice ap np cp] 27
  rw [← HW.out]
  clear HW
  refine (U_any ns W1 (by omega)).mono ?_
  rintro e w1 ⟨rfl, he1⟩
  have hb0 : ∀ w', Ext W1 w' → w'.cell? ⟨w.heap.size, 0, none⟩ = some (.slice sa ns cs) := fun w' h => (hbox.ext h).cell 0
  have hb1 : ∀ w', Ext W1 w' → w'.cell? ⟨w.heap.size, 1, none⟩ = some (.slice ap np cp) := fun w' h => (hbox.ext h).cell 1
  have HB0 := hide hb0
  have HB1 := hide hb1
  clear hb0 hb1 hbox
  have HA0 := hide (ba_append [80, 66, 1] (uB ns))
  generalize hu : uB ns = us at HA0 HL HB hm0
  clear hu
  go_wp2_with fail
  go_loopw [3, 4] (fun t i wr => ∃ k : Nat, k ≤ ns ∧ i = .int .i64 k ∧ t = .string ⟨([80, 66, 1] ++ us ++ sB (P.strings.take k)).toArray⟩ ∧ Ext W1 wr) (fun _ i _ => ns - (intOf i).toNat)
  case atStart => exact ⟨0, Nat.zero_le _, rfl, by simpa [sB] using congrArg Value.string HA0.out, he1⟩
  case round =>
    obtain ⟨k, hk, rfl, rfl, hxr⟩ := hrel
    clear hm0 HA0
    have hc0 := HB0.out wr hxr
    by_cases hlt : k < ns
    · obtain ⟨b, o, rfl, hcell⟩ := (hs.ext (hx1.trans hxr)).2 k hlt
      have HK : Hid (k < P.strings.length) := by show _ < _; rw [HNS.out]; exact hlt
      have hsk : (P.strings.getD k ByteArray.empty).size ≤ 60 := by
        have := HST.out
        rw [List.all_eq_true] at this
        have h := this _ (by have := HK.out; simp [List.getD, this] : P.strings.getD k ByteArray.empty ∈ P.strings)
        simpa [okStr] using h
      have HN := hide (sB_succ HK.out)
      have HLL : Hid (([80, 66, 1] ++ us ++ sB (P.strings.take k)).length + (xB (P.strings.getD k ByteArray.empty)).length ≤ 140737488355000) := by
        show _ ≤ _
        have h1 := HL.out
        have h2 := sB_le P.strings (k + 1)
        rw [HN.out] at h2
        simp only [List.length_append, List.length_cons, List.length_nil] at h2 ⊢; omega
      have HN2 : Hid ([80, 66, 1] ++ us ++ sB (P.strings.take (k + 1)) = [80, 66, 1] ++ us ++ sB (P.strings.take k) ++ xB (P.strings.getD k ByteArray.empty)) := by show _ = _; rw [HN.out]; simp
      generalize P.strings.getD k ByteArray.empty = x at hcell hsk HLL HN2
      generalize [80, 66, 1] ++ us ++ sB (P.strings.take k) = pre at HLL HN2 ⊢
      clear HN
      go_wp2_with fail
      refine (X_any x wr (by omega)).mono ?_
      rintro e w2 ⟨rfl, he2⟩
      have hm0 : ¬ 9223372036854775807 < pre.length + (xB x).length := by have := HLL.out; omega
      have HA0 := hide (ba_append pre (xB x))
      generalize xB x = y at HA0 HN2 hm0
      go_wp2_with fail
      go_roundw
      case rel => exact ⟨k + 1, by omega, by go_num, by rw [HN2.out]; exact congrArg Value.string HA0.out, hxr.trans he2⟩
      case measure => simp [intOf]; omega
    · have hkn : k = ns := by omega
      subst hkn
      have HT : Hid (P.strings.take k = P.strings) := List.take_of_length_le (by rw [HNS.out]; omega)
      rw [HT.out]
      have hc1 := HB1.out wr hxr
      have HLL : Hid (([80, 66, 1] ++ us ++ sB P.strings).length + (uB np).length + (psB P.phrases).length ≤ 140737488355000) := by
        show _ ≤ _
        have h1 := HL.out
        simp only [List.length_append, List.length_cons, List.length_nil]; omega
      generalize [80, 66, 1] ++ us ++ sB P.strings = pre at HLL HB ⊢
      go_wp2_with fail
      refine (U_any np wr (by omega)).mono ?_
      rintro e w3 ⟨rfl, he3⟩
      have hm0 : ¬ 9223372036854775807 < pre.length + (uB np).length := by have := HLL.out; omega
      have HA0 := hide (ba_append pre (uB np))
      generalize hu : uB np = up at HA0 HB HLL hm0
      clear hu hc0 hc1 HT
      go_wp2_with fail
      go_loopw [3, 5] (fun t i wr => ∃ j : Nat, j ≤ np ∧ i = .int .i64 j ∧ t = .string ⟨(pre ++ up ++ psB (P.phrases.take j)).toArray⟩ ∧ Ext W1 wr) (fun _ i _ => np - (intOf i).toNat)
      case atStart => exact ⟨0, Nat.zero_le _, rfl, by simpa [psB] using congrArg Value.string HA0.out, hxr.trans he3⟩
      case round =>
        obtain ⟨j, hj, rfl, rfl, hxr2⟩ := hrel
        clear hm0 HA0 hxr he3
        have hc1 := HB1.out wr hxr2
        by_cases hlj : j < np
        · obtain ⟨b, o, rfl, hph⟩ := (hp.ext (hx1.trans hxr2)).2 j hlj
          obtain ⟨aa, ca, ac, cc, hc3, hc4, hc5, hia, hca, hla, hlc, hnm⟩ := hph
          have HK : Hid (j < P.phrases.length) := by show _ < _; rw [HNP.out]; exact hlj
          have hokf := okTo_all HOT.out hlj
          have HLJ : Hid ((pre ++ up ++ psB (P.phrases.take j)).length + (pB (P.phrases.getD j noPhr)).length ≤ 140737488355000) := by
            show _ ≤ _
            have h1 := HLL.out
            have h2 := psB_le P.phrases (j + 1)
            rw [psB_succ HK.out] at h2
            simp only [List.length_append] at h2 ⊢; omega
          have HNX : Hid (pre ++ up ++ psB (P.phrases.take (j + 1)) = pre ++ up ++ psB (P.phrases.take j) ++ pB (P.phrases.getD j noPhr)) := by show _ = _; rw [psB_succ HK.out]; simp
          generalize pre ++ up ++ psB (P.phrases.take j) = prj at HLJ HNX ⊢
          generalize P.phrases.getD j noPhr = f at hc3 hc4 hc5 hia hca hla hlc hnm hokf HLJ HNX
          rw [pB_eq] at HLJ HNX
          rw [show ∀ a b c d e : List UInt8, prj ++ (a ++ b ++ c ++ d ++ e) = prj ++ a ++ b ++ c ++ d ++ e from fun a b c d e => by simp] at HNX
          obtain ⟨nm, args, code⟩ := f
          simp only at hc3 hc4 hc5 hia hca hla hlc hnm HLJ HNX
          unfold okPhr okArgs okCode at hokf
          simp only [Bool.and_eq_true, decide_eq_true_eq] at hokf
          obtain ⟨q1, q2, ⟨q3, q4⟩, q5, q6, q7⟩ := hokf
          have HA := hide q4
          have HC := hide q7
          clear q4 q7
          generalize hna : args.length = na at *
          generalize hnc : code.length = nc at *
          have HNA := hide hna
          have HNC := hide hnc
          have HL5 : Hid (prj.length + (xB nm).length + (uB na).length + (aB args).length + (uB nc).length + (cB code).length ≤ 140737488355000) := by
            show _ ≤ _
            have := HLJ.out
            simp only [List.length_append] at this; omega
          clear hna hnc HLJ
          go_wp2_with fail
          obtain ⟨W2, HW2⟩ : ∃ W2, Hid (W2 = wr.alloc (.cells #[.string nm, .slice aa na ca, .slice ac nc cc] 41)) := ⟨_, rfl⟩
          have hx3 : Ext wr W2 := by rw [HW2.out]; exact (Ext.refl wr).alloc _
          have hbf : OwnRow W2 wr.heap.size [.string nm, .slice aa na ca, .slice ac nc cc] 41 := by rw [HW2.out]; exact OwnRow.alloc wr [.string nm, .slice aa na ca, .slice ac nc cc] 41
          rw [← HW2.out]
          have hia2 := hia.ext hx3
          have hca2 := hca.ext hx3
          have HF1 : Hid (∀ w', Ext W2 w' → w'.cell? ⟨wr.heap.size, 1, none⟩ = some (.slice aa na ca)) := fun w' h => (hbf.ext h).cell 1
          have HF2 : Hid (∀ w', Ext W2 w' → w'.cell? ⟨wr.heap.size, 2, none⟩ = some (.slice ac nc cc)) := fun w' h => (hbf.ext h).cell 2
          have hq0 := fun n : ExtW W2 => (hbf.ext n.ext).cell 0
          have hq1 := fun n : ExtW W2 => (hbf.ext n.ext).cell 1
          simp only [List.getElem?_cons_zero, List.getElem?_cons_succ] at hq0 hq1
          have hne : Nonempty (ExtW W2) := ⟨⟨W2, Ext.refl W2⟩⟩
          have HCX := hide (fun n : ExtW W2 => calls_ext_of (n := n) (X_any nm n.world (by omega)))
          have HCU := hide (fun n : ExtW W2 => calls_ext_of (n := n) (U_any na n.world (by omega)))
          have hm1 : ¬ 9223372036854775807 < prj.length + (xB nm).length := by have := HL5.out; omega
          have hm2 : ¬ 9223372036854775807 < prj.length + (xB nm).length + (uB na).length := by have := HL5.out; omega
          have HA1 : Hid ((⟨prj.toArray⟩ : ByteArray) ++ ⟨(xB nm).toArray⟩ ++ ⟨(uB na).toArray⟩ = ⟨(prj ++ xB nm ++ uB na).toArray⟩) := by show _ = _; rw [ba_append, ba_append]
          clear HW2 hbf hc3 hc4 hc5 hia hca hc1
          generalize xB nm = yn at HL5 HNX HCX hm1 hm2 HA1
          generalize uB na = ya at HL5 HNX HCU hm2 HA1
          refine wp_region_ext_from (wb := W2) (Ext.refl W2) (by kernel_rfl) (by kernel_rfl) ?_
          repeat (go_big_quiet_step (first | (go_at_call 24; exact unhide HCX _) | (go_at_call 23; exact unhide HCU _)))
          refine wpQuiet_nil ?_
          rintro _ ⟨nq, rfl⟩
          have hxq := nq.ext
          generalize nq.world = wq at hxq ⊢
          clear nq hq0 hq1 hne HCX HCU hm1 hm2
          go_wp2_with fail
          go_loopw [3, 7] (fun t i wr => ∃ x : Nat, x ≤ na ∧ i = .int .i64 x ∧ t = .string ⟨(prj ++ yn ++ ya ++ aB (args.take x)).toArray⟩ ∧ Ext W2 wr) (fun _ i _ => na - (intOf i).toNat)
          case atStart => exact ⟨0, Nat.zero_le _, rfl, by simpa [aB] using congrArg Value.string HA1.out, hxq⟩
          case round =>
            obtain ⟨x, hx, rfl, rfl, hxs⟩ := hrel
            clear hxq HA1
            have hd1 := HF1.out wr hxs
            by_cases hlx : x < na
            · obtain ⟨b', o', rfl, hcell⟩ := (hia2.ext hxs).2 x hlx
              have HKX : Hid (x < args.length) := by show _ < _; rw [HNA.out]; exact hlx
              have hfit : fit (args.getD x 0) 1 = true := by
                have := HA.out
                rw [List.all_eq_true] at this
                exact this _ (by have := HKX.out; simp [List.getD, this])
              have HN := hide (aB_succ HKX.out)
              have HLX : Hid ((prj ++ yn ++ ya ++ aB (args.take x)).length + 1 ≤ 140737488355000) := by
                show _ ≤ _
                have h1 := HL5.out
                have h2 := aB_le args (x + 1)
                rw [HN.out] at h2
                simp only [List.length_append, List.length_singleton] at h2 ⊢; omega
              have HN2 : Hid (prj ++ yn ++ ya ++ aB (args.take (x + 1)) = prj ++ yn ++ ya ++ aB (args.take x) ++ [UInt8.ofNat (args.getD x 0).toNat]) := by show _ = _; rw [HN.out]; simp
              generalize args.getD x 0 = y at hcell hfit HN2
              generalize prj ++ yn ++ ya ++ aB (args.take x) = prx at HLX HN2 ⊢
              obtain ⟨hy0, hy1⟩ := fit_bd hfit
              have hy : (((UInt8.ofNat y.toNat).toNat : Nat) : Int) = y := by simp; omega
              have hcv := conv1 wr (UInt8.ofNat y.toNat) y hy 1
              have hm0 : ¬ 9223372036854775807 < prx.length + 1 := by have := HLX.out; omega
              have HA0 := hide (ba_append prx [UInt8.ofNat y.toNat])
              generalize UInt8.ofNat y.toNat = z at hcv HN2 HA0
              clear hfit hy HN
              go_wp2
              go_roundw
              case rel => exact ⟨x + 1, by omega, by go_num, by rw [HN2.out]; exact congrArg Value.string HA0.out, hxs.alloc _⟩
              case measure => simp [intOf]; omega
            · have hkn : x = na := by omega
              subst hkn
              have HT : Hid (args.take x = args) := List.take_of_length_le (by rw [HNA.out]; omega)
              rw [HT.out]
              have hd2 := HF2.out wr hxs
              have HL6 : Hid ((prj ++ yn ++ ya ++ aB args).length + (uB nc).length + (cB code).length ≤ 140737488355000) := by
                show _ ≤ _
                have h1 := HL5.out
                simp only [List.length_append]; omega
              generalize prj ++ yn ++ ya ++ aB args = pry at HL6 HNX ⊢
              clear HT
              go_wp2_with fail
              refine (U_any nc wr (by omega)).mono ?_
              rintro e w6 ⟨rfl, he6⟩
              have hm0 : ¬ 9223372036854775807 < pry.length + (uB nc).length := by have := HL6.out; omega
              have HA0 := hide (ba_append pry (uB nc))
              generalize uB nc = yc at HA0 HNX HL6 hm0
              clear hd1 hd2
              go_wp2_with fail
              go_loopw [3, 8] (fun t i wr => ∃ x : Nat, x ≤ nc ∧ i = .int .i64 x ∧ t = .string ⟨(pry ++ yc ++ cB (code.take x)).toArray⟩ ∧ Ext W2 wr) (fun _ i _ => nc - (intOf i).toNat)
              case atStart => exact ⟨0, Nat.zero_le _, rfl, by simpa [cB] using congrArg Value.string HA0.out, hxs.trans he6⟩
              case round =>
                obtain ⟨y, hy, rfl, rfl, hxt⟩ := hrel
                clear HA0 hm0 hxs he6
                have hd2 := HF2.out wr hxt
                by_cases hly : y < nc
                · obtain ⟨b', o', rfl, hc0, hc1, hc2⟩ := hca2.2 y hly
                  have HKY : Hid (y < code.length) := by show _ < _; rw [HNC.out]; exact hly
                  have hins : okIns (code.getD y (0, 0, 0)) = true := by
                    have := HC.out
                    rw [List.all_eq_true] at this
                    exact this _ (by have := HKY.out; simp [List.getD, this])
                  have HN := hide (cB_succ HKY.out)
                  generalize code.getD y (0, 0, 0) = x at hc0 hc1 hc2 hins HN
                  obtain ⟨x0, x1, x2⟩ := x
                  obtain ⟨q0, q1, q2⟩ := okIns_yes hins
                  simp only at q0 q1 q2 hc0 hc1 hc2
                  have hbd0 := fit_bd q0
                  have hbd1 := fit_bd q1
                  have hbd2 := fit_bd q2
                  clear q0 q1 q2 hins
                  obtain ⟨n0, rfl⟩ := Int.eq_ofNat_of_zero_le hbd0.1
                  obtain ⟨n1, rfl⟩ := Int.eq_ofNat_of_zero_le hbd1.1
                  obtain ⟨n2, rfl⟩ := Int.eq_ofNat_of_zero_le hbd2.1
                  have HI : Hid (iB ((n0 : Int), (n1 : Int), (n2 : Int)) = UInt8.ofNat n0 :: (uB n1 ++ uB n2)) := by show _ = _; simp [iB]
                  have HLY : Hid ((pry ++ yc ++ cB (code.take y)).length + 1 + (uB n1).length + (uB n2).length ≤ 140737488355000) := by
                    show _ ≤ _
                    have h1 := HL6.out
                    have h2 := cB_le code (y + 1)
                    rw [HN.out, HI.out] at h2
                    simp only [List.length_append, List.length_cons] at h2 ⊢; omega
                  have HNY : Hid (pry ++ yc ++ cB (code.take (y + 1)) = pry ++ yc ++ cB (code.take y) ++ [UInt8.ofNat n0] ++ uB n1 ++ uB n2) := by
                    show _ = _
                    rw [HN.out, HI.out]; simp
                  generalize pry ++ yc ++ cB (code.take y) = prz at HLY HNY ⊢
                  have hyy : (((UInt8.ofNat n0).toNat : Nat) : Int) = IntKind.u8.wrap (n0 : Int) := by rw [IntKind.wrap_u8']; simp
                  have HWR : Hid (IntKind.u8.wrap (n0 : Int) = n0) := by show _ = _; rw [IntKind.wrap_u8']; omega
                  have HU1 := hide (fun w => U_any n1 w (by omega))
                  have HU2 := hide (fun w => U_any n2 w (by omega))
                  have hm1 : ¬ 9223372036854775807 < prz.length + 1 := by have := HLY.out; omega
                  have hm2 : ¬ 9223372036854775807 < prz.length + 1 + (uB n1).length := by have := HLY.out; omega
                  have hm3 : ¬ 9223372036854775807 < prz.length + 1 + (uB n1).length + (uB n2).length := by have := HLY.out; omega
                  generalize UInt8.ofNat n0 = z at hyy HNY
                  have hcv := fun (w : World) (b : Nat) (hc : w.cell? ⟨b, 0, none⟩ = some (.int .u8 (IntKind.u8.wrap (n0 : Int)))) => conv_at (c := 1) z _ hyy hc
                  have HA2 : Hid ((⟨prz.toArray⟩ : ByteArray) ++ ⟨#[z]⟩ ++ ⟨(uB n1).toArray⟩ ++ ⟨(uB n2).toArray⟩ = ⟨(prz ++ [z] ++ uB n1 ++ uB n2).toArray⟩) := by show _ = _; rw [← ba_append, ← ba_append, ← ba_append]
                  generalize uB n1 = s1 at HNY HU1 hm2 hm3 HA2
                  generalize uB n2 = s2 at HNY HU2 hm3 HA2
                  have hq2 := HF2.out
                  have hr0 := fun w' (h : Ext W2 w') => h.cell hc0
                  have hr1 := fun w' (h : Ext W2 w') => h.cell hc1
                  have hr2 := fun w' (h : Ext W2 w') => h.cell hc2
                  clear hyy hc0 hc1 hc2 HN HI HLY
                  go_wp2_with fail
                  go_region_held (fun w' => Ext W2 w') (first | exact Ext.drew hxt | assumption | exact Ext.alloc (by assumption) _ | exact Ext.trans (by assumption) (by assumption) | fail) (first
                    | (go_at_call_of 23 (Value.int .i64 (n1 : Int)); refine (HU1.out _).mono ?_; rintro e wA ⟨rfl, heA⟩; try have hcA := heA.cell (newcell_drew wr (.int .u8 (IntKind.u8.wrap (n0 : Int))) 5))
                    | (go_at_call_of 23 (Value.int .i64 (n2 : Int)); refine (HU2.out _).mono ?_; rintro e wB ⟨rfl, heB⟩; first | have hcB := heB.cell hcA | have hcB := heB.cell (newcell wA (.int .u8 (IntKind.u8.wrap (n0 : Int))) 5) | skip))
                  all_goals
                    rename_i hfin
                    clear hcv hq2 hr0 hr1 hr2 hm1 hm2 hm3 HU1 HU2
                    go_wp2
                    go_roundw
                    case rel => exact ⟨y + 1, by omega, by go_num, by rw [HNY.out]; exact congrArg Value.string HA2.out, by first | exact hfin | (rw [HWR.out] at hfin; exact hfin)⟩
                    case measure => simp [intOf]; omega
                · have hkn : y = nc := by omega
                  subst hkn
                  have HT : Hid (code.take y = code) := List.take_of_length_le (by rw [HNC.out]; omega)
                  rw [HT.out, ← HNX.out]
                  go_wp2_with fail
                  go_roundw
                  case rel => exact ⟨j + 1, by omega, by go_num, rfl, (hxr2.trans hx3).trans hxt⟩
                  case measure => simp [intOf]; omega
        · have hkn : j = np := by omega
          subst hkn
          have HT : Hid (P.phrases.take j = P.phrases) := List.take_of_length_le (by rw [HNP.out]; omega)
          rw [HT.out, ← HB.out]
          have HPB : Hid (packB P = bodyB P ++ sumB (bodyB P)) := rfl
          have HLB : Hid ((bodyB P).length ≤ 140737488355000) := by
            show _ ≤ _
            rw [HB.out]; have := HLL.out; simp only [List.length_append]; omega
          have hsm : ¬ 9223372036854775807 < (bodyB P).length + (sumB (bodyB P)).length := by have := HLB.out; simp [sumB]; omega
          generalize bodyB P = body at HPB HLB hsm ⊢
          go_wp2_with fail
          refine (refSum_any _ _ (by simp [ByteArray.size]; have := HLB.out; omega)).mono ?_
          rintro e w5 ⟨rfl, he5⟩
          go_wp2_with fail
          go_ret
          exact ⟨by rw [HPB.out, ← ba_append]; rfl, (hx1.trans hxr2).trans he5⟩

end Go.Proofs.YtkhenmpdlnhgjaaDoor
