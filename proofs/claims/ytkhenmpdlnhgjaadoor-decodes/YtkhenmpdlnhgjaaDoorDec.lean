import Derived.Test.YtkhenmpdlnhgjaaDoorUnMath
namespace Go.Proofs.YtkhenmpdlnhgjaaDoor
open Go.RowKit

set_option maxHeartbeats 1000000 in
theorem samePack_yes (sa ap sb bp : Option Addr) (ns np cs cp ct cq : Nat) (P : Pk) (w : World) (hs : StrsAt w sa ns P.strings) (hp : PhrasesAt w ap np P.phrases) (ht : StrsAt w sb ns P.strings) (hq : PhrasesAt w bp np P.phrases) (hns : ns ≤ 8796093022208) (hnp : np ≤ 2199023255552) :
    Calls Tryd.prog 17 #[.agg #[.slice sa ns cs, .slice ap np cp], .agg #[.slice sb ns ct, .slice bp np cq]] w fun e w' => e = .returned (.bool true) ∧ Ext w w' := by
  go_enter Tryd.func17, Tryd.ntmps17
  go_wp2_with fail
  obtain ⟨W1, HW⟩ : ∃ W1, Hid (W1 = (w.alloc (.cells #[.slice sa ns cs, .slice ap np cp] 27)).alloc (.cells #[.slice sb ns ct, .slice bp np cq] 27)) := ⟨_, rfl⟩
  have hx1 : Ext w W1 := by rw [HW.out]; exact ((Ext.refl w).alloc _).alloc _
  have hbo : OwnRow W1 w.heap.size [.slice sa ns cs, .slice ap np cp] 27 := by
    rw [HW.out]
    exact OwnRow.ext (OwnRow.alloc w [.slice sa ns cs, .slice ap np cp] 27) ((Ext.refl _).alloc _)
  have hbp : OwnRow W1 (w.heap.size + 1) [.slice sb ns ct, .slice bp np cq] 27 := by
    rw [HW.out]
    have := OwnRow.alloc (w.alloc (.cells #[.slice sa ns cs, .slice ap np cp] 27)) [.slice sb ns ct, .slice bp np cq] 27
    simpa using this
  rw [← HW.out]
  refine (sameTexts_any _ _ _ _ _ _ P.strings P.strings _ (hs.ext hx1) (ht.ext hx1) (by unfold maxLen; omega) (by unfold maxLen; omega)).mono ?_
  rintro e w1 ⟨rfl, he1⟩
  rw [decide_eq_true rfl]
  have hbo1 := hbo.ext he1
  have hbp1 := hbp.ext he1
  have hq1 := hq.ext (hx1.trans he1)
  have hp1 := hp.ext (hx1.trans he1)
  have hxw := hx1.trans he1
  have hb1 : w1.cell? ⟨w.heap.size, 1, none⟩ = some (.slice ap np cp) := hbo1.cell 1
  have hb2 : w1.cell? ⟨w.heap.size + 1, 1, none⟩ = some (.slice bp np cq) := hbp1.cell 1
  clear hs hp ht hq HW hx1 hbo hbp he1
  go_wp2
  go_loopw [6] (fun i wr => ∃ k : Nat, k ≤ np ∧ i = .int .i64 k ∧ Ext w1 wr) (fun i _ => np - (intOf i).toNat)
  case atStart => exact ⟨0, Nat.zero_le _, rfl, Ext.refl _⟩
  case round =>
    obtain ⟨k, hk, rfl, hext⟩ := hrel
    have hb1' := hext.cell hb1
    by_cases hlt : k < np
    · obtain ⟨b, o, rfl, hph⟩ := (hp1.ext hext).2 k hlt
      obtain ⟨b', o', rfl, hph'⟩ := (hq1.ext hext).2 k hlt
      obtain ⟨aa, ca, ac, cc, hc0, hc1, hc2, hia, hca, hla, hlc, _⟩ := hph
      obtain ⟨ba, da, bc, dc, hd0, hd1, hd2, hja, hjc, _, _, _⟩ := hph'
      generalize P.phrases.getD k noPhr = f at hc0 hc1 hc2 hia hca hla hlc hd0 hd1 hd2 hja hjc
      clear hb1 hb2
      obtain ⟨nm, args, code⟩ := f
      simp only at hc0 hc1 hc2 hia hca hla hlc hd0 hd1 hd2 hja hjc
      have hne : Nonempty (ExtW wr) := ⟨⟨wr, Ext.refl wr⟩⟩
      have ho1 := fun n : ExtW wr => ((hbo1.ext hext).ext n.ext).cell 1
      have hp1' := fun n : ExtW wr => ((hbp1.ext hext).ext n.ext).cell 1
      simp only [List.getElem?_cons_succ, List.getElem?_cons_zero] at ho1 hp1'
      have hq0 := fun n : ExtW wr => n.cell hc0
      have hq1 := fun n : ExtW wr => n.cell hc1
      have hq2 := fun n : ExtW wr => n.cell hc2
      have hr0 := fun n : ExtW wr => n.cell hd0
      have hr1 := fun n : ExtW wr => n.cell hd1
      have hr2 := fun n : ExtW wr => n.cell hd2
      have hA : ∀ n : ExtW wr, Calls Tryd.prog 30 #[.slice aa args.length ca, .slice ba args.length da] n.world fun e w'' => e = .returned (.bool true) ∧ ∃ q : ExtW wr, w'' = q.world := fun n => by
        have := calls_ext_of (n := n) (sameInts_any aa ba _ _ ca da args args n.world (hia.ext n.ext) (hja.ext n.ext) (by unfold maxLen; omega) (by unfold maxLen; omega))
        rw [decide_eq_true rfl] at this; exact this
      have hC : ∀ n : ExtW wr, Calls Tryd.prog 31 #[.slice ac code.length cc, .slice bc code.length dc] n.world fun e w'' => e = .returned (.bool true) ∧ ∃ q : ExtW wr, w'' = q.world := fun n => by
        have := calls_ext_of (n := n) (sameCode_any ac bc _ _ cc dc code code n.world (hca.ext n.ext) (hjc.ext n.ext) (by unfold maxLen; omega) (by unfold maxLen; omega))
        rw [decide_eq_true rfl] at this; exact this
      have HA := hide hA
      have HC := hide hC
      clear hc0 hc1 hc2 hd0 hd1 hd2 hA hC
      go_wp2
      refine wp_region_ext_from (wb := wr) (Ext.refl wr) (by kernel_rfl) (by kernel_rfl) ?_
      repeat (go_big_quiet_step ((go_at_call 30; exact unhide HA _)))
      refine wpQuiet_nil ?_
      rintro _ ⟨nq, rfl⟩
      go_wp2
      refine wp_region_ext_from (wb := wr) nq.ext (by kernel_rfl) (by kernel_rfl) ?_
      repeat (go_big_quiet_step ((go_at_call 31; exact unhide HC _)))
      refine wpQuiet_nil ?_
      rintro _ ⟨nr, rfl⟩
      go_wp2
      refine wp_region_ext_from (wb := wr) nr.ext (by kernel_rfl) (by kernel_rfl) ?_
      repeat (go_big_quiet_step (fail))
      refine wpQuiet_nil ?_
      rintro _ ⟨nt, rfl⟩
      go_wp2
      go_roundw
      case rel => exact ⟨k + 1, by omega, by go_num, hext.trans nt.ext⟩
      case measure => simp [intOf]; omega
    · go_wp2
      go_ret
      exact ⟨rfl, hxw.trans hext⟩

set_option maxHeartbeats 400000 in
theorem empty_yes (w : World) : Calls Tryd.prog 15 #[nilPk] w fun e w' => e = .returned (.bool true) ∧ Ext w w' := by
  have hx := (Ext.refl w).alloc (.cells #[.slice none 0 0, .slice none 0 0] 27)
  have q1 : ∀ w : World, (binOp .eql 24 (.slice none 0 0) (.slice none 0 0)).run Tryd.prog w = .ok (.bool true) w := fun w => run_eql_nil_slice w _ _ none 0 0 0 0 Tryd.underlying24
  have q2 : ∀ w : World, (binOp .eql 25 (.slice none 0 0) (.slice none 0 0)).run Tryd.prog w = .ok (.bool true) w := fun w => run_eql_nil_slice w _ _ none 0 0 0 0 Tryd.underlying25
  unfold nilPk
  go_enter Tryd.func15, Tryd.ntmps15
  go_wp2
  go_ret
  exact ⟨rfl, hx⟩

def exCode : List Ins := [(0, 0, 0), (1, 0, 0), (4, 0, 0), (0, 1, 0), (1, 1, 0), (4, 0, 0), (0, 2, 0), (8, 0, 0)]
def exTexts : List ByteArray := [⟨#[60, 112, 32, 116, 105, 116, 108, 101, 61, 34]⟩, ⟨#[34, 62]⟩, ⟨#[60, 47, 112, 62]⟩, ⟨#[111, 110, 101]⟩]
def exPk : Pk := ⟨exTexts, [⟨⟨#[112]⟩, [0, 1], exCode⟩]⟩

theorem rows5 (w : World) (D1 D2 D3 D4 D5 : List Value) (t1 t2 t3 t4 t5 : TypeId) :
    let W := ((((w.alloc (.cells D1.toArray t1)).alloc (.cells D2.toArray t2)).alloc (.cells D3.toArray t3)).alloc (.cells D4.toArray t4)).alloc (.cells D5.toArray t5)
    OwnRow W w.heap.size D1 t1 ∧ OwnRow W (w.heap.size + 1) D2 t2 ∧ OwnRow W (w.heap.size + 1 + 1) D3 t3 ∧ OwnRow W (w.heap.size + 1 + 1 + 1) D4 t4 ∧ OwnRow W (w.heap.size + 1 + 1 + 1 + 1) D5 t5 ∧ Ext w W := by
  intro W
  have s1 : (w.alloc (.cells D1.toArray t1)).heap.size = w.heap.size + 1 := by simp
  have s2 : ((w.alloc (.cells D1.toArray t1)).alloc (.cells D2.toArray t2)).heap.size = w.heap.size + 1 + 1 := by simp
  have s3 : (((w.alloc (.cells D1.toArray t1)).alloc (.cells D2.toArray t2)).alloc (.cells D3.toArray t3)).heap.size = w.heap.size + 1 + 1 + 1 := by simp
  have s4 : ((((w.alloc (.cells D1.toArray t1)).alloc (.cells D2.toArray t2)).alloc (.cells D3.toArray t3)).alloc (.cells D4.toArray t4)).heap.size = w.heap.size + 1 + 1 + 1 + 1 := by simp
  have r1 := OwnRow.alloc w D1 t1
  have r2 := OwnRow.alloc (w.alloc (.cells D1.toArray t1)) D2 t2
  have r3 := OwnRow.alloc ((w.alloc (.cells D1.toArray t1)).alloc (.cells D2.toArray t2)) D3 t3
  have r4 := OwnRow.alloc (((w.alloc (.cells D1.toArray t1)).alloc (.cells D2.toArray t2)).alloc (.cells D3.toArray t3)) D4 t4
  have r5 := OwnRow.alloc ((((w.alloc (.cells D1.toArray t1)).alloc (.cells D2.toArray t2)).alloc (.cells D3.toArray t3)).alloc (.cells D4.toArray t4)) D5 t5
  rw [s1] at r2
  rw [s2] at r3
  rw [s3] at r4
  rw [s4] at r5
  exact ⟨r1.ext (((((Ext.refl _).alloc _).alloc _).alloc _).alloc _), r2.ext ((((Ext.refl _).alloc _).alloc _).alloc _), r3.ext (((Ext.refl _).alloc _).alloc _), r4.ext ((Ext.refl _).alloc _), r5, (((((Ext.refl w).alloc _).alloc _).alloc _).alloc _).alloc _⟩

set_option maxHeartbeats 1000000 in
theorem example_any (w : World) : Calls Tryd.prog 7 #[] w fun e w' => ∃ sa cs ap cp, e = .returned (.agg #[.slice sa 4 cs, .slice ap 1 cp]) ∧ StrsAt w' sa 4 exPk.strings ∧ PhrasesAt w' ap 1 exPk.phrases ∧ Ext w w' := by
  have H := hide (rows5 w [.slice (some ⟨w.heap.size + 1 + 1, 0, none⟩) 4 4, .slice (some ⟨w.heap.size + 1 + 1 + 1 + 1, 0, none⟩) 1 1] (codes exCode) (strs exTexts) (ints [0, 1])
    [.string ⟨#[112]⟩, .slice (some ⟨w.heap.size + 1 + 1 + 1, 0, none⟩) 2 2, .slice (some ⟨w.heap.size + 1, 0, none⟩) 8 8] 27 36 9 3 41)
  go_enter Tryd.func7, Tryd.ntmps7
  go_wp2
  obtain ⟨h1, h2, h3, h4, h5, hx⟩ := H.out
  simp only [codes, exCode, strs, exTexts, ints, List.flatMap_cons, List.flatMap_nil, List.map_cons, List.map_nil, List.cons_append, List.nil_append] at h1 h2 h3 h4 h5 hx
  generalize ((((w.alloc _).alloc _).alloc _).alloc _).alloc _ = W at h1 h2 h3 h4 h5 hx ⊢
  have z0 := h1.cell 0
  have z1 := h1.cell 1
  simp only [List.getElem?_cons_zero, List.getElem?_cons_succ] at z0 z1
  refine bodyPost_ret (v := .agg #[.slice (some ⟨w.heap.size + 1 + 1, 0, none⟩) 4 4, .slice (some ⟨w.heap.size + 1 + 1 + 1 + 1, 0, none⟩) 1 1]) ?_ rfl ?_
  · clear h1 h2 h3 h4 h5 hx
    simp [results, Tryd.results7, go_sem, z0, z1]
  · refine ⟨some ⟨w.heap.size + 1 + 1, 0, none⟩, 4, some ⟨w.heap.size + 1 + 1 + 1 + 1, 0, none⟩, ⟨1, rfl⟩, StrsAt.of_row (xs := exTexts) h3 rfl, ⟨rfl, fun i hi => ⟨w.heap.size + 1 + 1 + 1 + 1, 0, rfl, ?_⟩⟩, hx⟩
    have hi0 : i = 0 := by omega
    subst hi0
    have k0 := h5.cell 0
    have k1 := h5.cell 1
    have k2 := h5.cell 2
    simp only [List.getElem?_cons_zero, List.getElem?_cons_succ] at k0 k1 k2
    exact ⟨_, _, _, _, k0, k1, k2, IntsAt.of_row (xs := [0, 1]) h4 rfl, CodeAt.of_row (xs := exCode) h2 rfl, by simp [exPk], by simp [exPk, exCode], by show (1 : Nat) ≤ _; omega⟩

end Go.Proofs.YtkhenmpdlnhgjaaDoor
