import Derived.Test.YtkhenmpdlnhgjaaDoorRdPhrs
namespace Go.Proofs.YtkhenmpdlnhgjaaDoor
open Go.RowKit

def pSeal (bs : List UInt8) : Option (List UInt8) := if 2 ≤ bs.length ∧ bs.drop (bs.length - 2) = sumB (bs.take (bs.length - 2)) then some (bs.take (bs.length - 2)) else none

theorem toList_mk (l : List UInt8) : (⟨l.toArray⟩ : ByteArray).toList = l := by rw [ByteArray.toList_eq]

set_option maxHeartbeats 400000 in
theorem unseal_any (bs : List UInt8) (et : TypeId) (ev : Value) (w : World) (hl : bs.length ≤ 140737488355328) (hE : w.cell? ⟨0, 0, none⟩ = some (.iface et ev)) :
    Calls Tryd.prog 44 #[.string ⟨bs.toArray⟩] w fun e w' => Outc (pSeal bs) (fun x => e = .returned (.string ⟨x.toArray⟩) ∧ Ext w w') (e = Gave et ev ∧ Ext w w') := by
  have hne : Nonempty (ExtW w) := ⟨⟨w, Ext.refl w⟩⟩
  have hq := fun n : ExtW w => n.cell hE
  by_cases h2 : 2 ≤ bs.length
  · obtain ⟨m, hm⟩ : ∃ m, bs.length = m + 2 := ⟨bs.length - 2, by omega⟩
    have e2 : bs.length - 2 = m := by omega
    have hi : ((bs.length : Nat) : Int) - 2 = (m : Int) := by omega
    have hi2 : decide ((m : Int) < 0) = false := decide_eq_false (by omega)
    have hmb : (m : Int) ≤ (bs.length : Int) := by omega
    have hm0 : (0 : Int) ≤ (m : Int) := by omega
    have HS : Hid (∀ n : ExtW w, Calls Tryd.prog 37 #[.string ((⟨bs.toArray⟩ : ByteArray).extract 0 m)] n.world fun e w'' => e = .returned (.string ⟨(sumB (bs.take m)).toArray⟩) ∧ ∃ q : ExtW w, w'' = q.world) := fun n => by
      have hx : (((⟨bs.toArray⟩ : ByteArray).extract 0 m)).size ≤ 140737488355328 := by rw [extract_take]; simp [ByteArray.size]; omega
      have := calls_ext_of (n := n) (sum_any ((⟨bs.toArray⟩ : ByteArray).extract 0 m) n.world hx)
      rw [extract_take] at this ⊢
      simpa using this
    by_cases hs : bs.drop m = sumB (bs.take m)
    · have HP : Hid (pSeal bs = some (bs.take m)) := by show _ = _; unfold pSeal; rw [e2, if_pos ⟨h2, hs⟩]
      have hcmp : (!(((⟨bs.toArray⟩ : ByteArray).extract m bs.length).toList == (⟨(sumB (bs.take m)).toArray⟩ : ByteArray).toList)) = false := by rw [extract_drop, toList_mk, toList_mk, hs]; simp
      generalize (⟨(sumB (bs.take m)).toArray⟩ : ByteArray) = sg at HS hcmp
      have HM := hide hm
      clear hs hm e2 hE
      go_enter Tryd.func44, Tryd.ntmps44
      go_wp2_with fail
      refine wp_region_ext_from (wb := w) (Ext.refl w) (by kernel_rfl) (by kernel_rfl) ?_
      repeat (go_big_quiet_step ((go_at_call 37; exact unhide HS _)))
      refine wpQuiet_nil ?_
      rintro _ ⟨nq, rfl⟩
      go_wp2_with fail
      go_ret
      exact outc_yes HP.out ⟨by rw [← extract_take]; rfl, nq.ext⟩
    · have HP : Hid (pSeal bs = none) := by show _ = _; unfold pSeal; rw [e2, if_neg (fun h => hs h.2)]
      have hcmp : (!(((⟨bs.toArray⟩ : ByteArray).extract m bs.length).toList == (⟨(sumB (bs.take m)).toArray⟩ : ByteArray).toList)) = true := by rw [extract_drop, toList_mk, toList_mk]; simpa using hs
      generalize (⟨(sumB (bs.take m)).toArray⟩ : ByteArray) = sg at HS hcmp
      have HM := hide hm
      clear hs hm e2 hE
      go_enter Tryd.func44, Tryd.ntmps44
      go_wp2_with fail
      refine wp_region_ext_from (wb := w) (Ext.refl w) (by kernel_rfl) (by kernel_rfl) ?_
      repeat (go_big_quiet_step ((go_at_call 37; exact unhide HS _)))
      refine wpQuiet_nil ?_
      rintro _ ⟨nq, rfl⟩
      go_wp2_with fail
      exact ⟨rfl, outc_no HP.out ⟨rfl, nq.ext⟩⟩
  · have HP : Hid (pSeal bs = none) := by show _ = _; unfold pSeal; rw [if_neg (fun h => h2 h.1)]
    have hi2 : ((bs.length : Nat) : Int) - 2 < 0 := by omega
    go_enter Tryd.func44, Tryd.ntmps44
    go_wp2_with fail
    refine wp_region_ext_from (wb := w) (Ext.refl w) (by kernel_rfl) (by kernel_rfl) ?_
    repeat (go_big_quiet_step (fail))
    refine wpQuiet_nil ?_
    rintro _ ⟨nq, rfl⟩
    go_wp2_with fail
    exact ⟨rfl, outc_no HP.out ⟨rfl, nq.ext⟩⟩

end Go.Proofs.YtkhenmpdlnhgjaaDoor
