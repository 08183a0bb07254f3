import Derived.Test.YtkhenmpdlnhgjaaEnc
import Derived.Test.YtkhenmpdlnhgjaaStillPack
namespace Go.Proofs.Ytkhenmpdlnhgjaa
open Go.RowKit

theorem Made.strs {w : World} {bs bp np ns : Nat} {P : Pk} {vs : List Trip} (h : Made w bs bp np P vs) (hn : P.strings.length = ns) : StrsAt w (some ⟨bs, 0, none⟩) ns P.strings :=
  (StrsAt.of_row h.1 (by simp : (P.strings ++ List.replicate 8 markText).length = P.strings.length + 8)).left hn
theorem Made.phrases {w : World} {bs bp np : Nat} {P : Pk} {vs : List Trip} (h : Made w bs bp np P vs) {w0 : World} {ap : Option Addr} (hp : PhrasesAt w0 ap np P.phrases) : PhrasesAt w (some ⟨bp, 0, none⟩) np P.phrases := by
  refine ⟨hp.1, fun i hi => ⟨bp, 0, rfl, ?_⟩⟩
  obtain ⟨b, o, _, aa, ca, ac, cc, _, _, _, _, _, h6⟩ := hp.2 i hi
  obtain ⟨ba, bc, h0, h1, h2, h3, h4⟩ := h.phrase hi rfl
  rw [Nat.zero_add]
  exact ⟨_, _, _, _, h0, h1, h2, h3.left rfl, h4.left rfl, h6⟩

set_option maxHeartbeats 400000 in
theorem encodes_any (sa ap : Option Addr) (ns np cs cp : Nat) (P : Pk) (w : World) (hs : StrsAt w sa ns P.strings) (hp : PhrasesAt w ap np P.phrases) (hns : ns ≤ 8796093022208) (hnp : np ≤ 2199023255552)
    (hsz : ∀ s ∈ P.strings, s.size ≤ 140737488355328) :
    Calls Try.prog 3 #[.agg #[.slice sa ns cs, .slice ap np cp]] w fun e w' => e = .returned (.bool true) ∧ Ext w w' := by
  have hx := (Ext.refl w).alloc (.cells #[.slice sa ns cs, .slice ap np cp] 25)
  have hb := OwnRow.alloc w [.slice sa ns cs, .slice ap np cp] 25
  have HC1 := hide (packOf_any sa ap ns np cs cp P _ (hs.ext hx) (hp.ext hx) hns hnp)
  go_enter Try.func3, Try.ntmps3
  go_wp2_with fail
  refine HC1.out.mono ?_
  rintro e w1 ⟨bs, bp, vs, rfl, he1, hr1, hr2, hr3, hr4⟩
  have hm1 : Made w1 bs bp np P vs := ⟨hr1, hr2, hr3, hr4⟩
  clear hr1 hr2 hr3 hr4 HC1
  go_wp2_with fail
  obtain ⟨W2, HW2⟩ : ∃ W2, Hid (W2 = w1.alloc (.cells #[.slice (some ⟨bs, 0, none⟩) ns (ns + 8), .slice (some ⟨bp, 0, none⟩) np (np + 8)] 25)) := ⟨_, rfl⟩
  have hx2 : Ext w1 W2 := by rw [HW2.out]; exact (Ext.refl w1).alloc _
  have hbo : OwnRow W2 w1.heap.size [.slice (some ⟨bs, 0, none⟩) ns (ns + 8), .slice (some ⟨bp, 0, none⟩) np (np + 8)] 25 := by rw [HW2.out]; exact OwnRow.alloc w1 [.slice (some ⟨bs, 0, none⟩) ns (ns + 8), .slice (some ⟨bp, 0, none⟩) np (np + 8)] 25
  rw [← HW2.out]
  clear HW2
  have hm2 := hm1.ext hx2
  refine (encode_any _ _ ns np _ _ P W2 (hm2.strs hs.1) (hm2.phrases hp) hns hnp (by omega) hsz).mono ?_
  rintro e w3 ⟨rfl, he3⟩
  have hm3 := hm2.ext he3
  have hxw : Ext w w3 := ((hx.trans he1).trans hx2).trans he3
  have ho0 := (hbo.ext he3).cell 0
  have ho1 := (hbo.ext he3).cell 1
  have hp0 := ((((hb.ext he1).ext hx2).ext he3)).cell 0
  have hp1 := ((((hb.ext he1).ext hx2).ext he3)).cell 1
  have hbb := (((hb.ext he1).ext hx2).ext he3)
  simp only [List.getElem?_cons_zero, List.getElem?_cons_succ] at ho0 ho1 hp0 hp1
  have HSP := hide (stillPack_yes sa ap ns np cs cp bs bp P vs w3 (hs.ext hxw) (hp.ext hxw) hns hnp hm3)
  cases hE : encOk P with
  | true =>
    rw [encRes_yes hE]
    have HE := hide hE
    clear hE hm1 hm2 hm3 hbo hb hx he1 hx2 he3
    go_wp2_with fail
    refine HSP.out.mono ?_
    rintro e w4 ⟨rfl, he4⟩
    have hq0 := (hbb.ext he4).cell 0
    have hq1 := (hbb.ext he4).cell 1
    simp only [List.getElem?_cons_zero, List.getElem?_cons_succ] at hq0 hq1
    clear ho0 ho1 hp0 hp1
    go_wp2_with fail
    refine (bytes_any sa ap ns np cs cp P w4 (hs.ext (hxw.trans he4)) (hp.ext (hxw.trans he4)) hns hnp hsz).mono ?_
    rintro e w5 ⟨s, rfl, hsS, he5⟩
    have hs2 := hsS HE.out
    rw [HE.out]
    subst hs2
    clear hsS hq0 hq1
    generalize packB P = pk
    go_wp2_with fail
    go_ret
    exact ⟨ret_bool (by simp), (hxw.trans he4).trans he5⟩
  | false =>
    rw [encRes_no hE]
    have HE := hide hE
    clear hE hm1 hm2 hm3 hbo hb hx he1 hx2 he3
    go_wp2_with fail
    refine HSP.out.mono ?_
    rintro e w4 ⟨rfl, he4⟩
    have hq0 := (hbb.ext he4).cell 0
    have hq1 := (hbb.ext he4).cell 1
    simp only [List.getElem?_cons_zero, List.getElem?_cons_succ] at hq0 hq1
    clear ho0 ho1 hp0 hp1
    go_wp2_with fail
    refine (bytes_any sa ap ns np cs cp P w4 (hs.ext (hxw.trans he4)) (hp.ext (hxw.trans he4)) hns hnp hsz).mono ?_
    rintro e w5 ⟨s, rfl, _, he5⟩
    rw [HE.out]
    clear hq0 hq1
    go_wp2_with fail
    go_ret
    exact ⟨ret_bool (by simp), (hxw.trans he4).trans he5⟩

end Go.Proofs.Ytkhenmpdlnhgjaa
