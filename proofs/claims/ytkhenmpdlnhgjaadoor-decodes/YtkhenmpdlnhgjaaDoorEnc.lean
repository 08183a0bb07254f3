import Derived.Test.YtkhenmpdlnhgjaaDoorRefBytes
namespace Go.Proofs.YtkhenmpdlnhgjaaDoor
open Go.RowKit

theorem xB_le {s : ByteArray} (h : s.size ≤ 60) : (xB s).length ≤ 70 := by
  have := length_uB 8 s.size (by omega)
  unfold xB
  rw [List.length_append]
  have e : s.data.toList.length = s.size := rfl
  omega
theorem flat_le {α : Type} (g : α → List UInt8) (m : Nat) : ∀ (l : List α), (∀ x ∈ l, (g x).length ≤ m) → (l.flatMap g).length ≤ l.length * m
  | [], _ => by simp
  | x :: l, h => by
    have h1 := h x (by simp)
    have h2 := flat_le g m l (fun y hy => h y (by simp [hy]))
    rw [List.flatMap_cons, List.length_append, List.length_cons, Nat.add_mul]
    omega
theorem iB_le {x : Ins} (h : okIns x = true) : (iB x).length ≤ 20 := by
  obtain ⟨_, h1, h2⟩ := okIns_yes h
  have b1 := fit_bd h1
  have b2 := fit_bd h2
  have := length_uB 8 x.2.1.toNat (by omega)
  have := length_uB 8 x.2.2.toNat (by omega)
  unfold iB
  rw [List.length_cons, List.length_append]
  omega
theorem pB_le {f : Phr} (h : okPhr f = true) : (pB f).length ≤ 2000 := by
  unfold okPhr okArgs okCode at h
  simp only [Bool.and_eq_true, decide_eq_true_eq] at h
  obtain ⟨k1, k2, ⟨k3, k4⟩, k5, k6, k7⟩ := h
  have h1 := xB_le (s := f.name) (by omega)
  have h2 := length_uB 8 f.args.length (by omega)
  have h3 := length_uB 8 f.code.length (by omega)
  have h4 : (aB f.args).length = f.args.length := by simp [aB]
  have h5 : (cB f.code).length ≤ f.code.length * 20 := flat_le iB 20 f.code (fun x hx => iB_le (by rw [List.all_eq_true] at k7; exact k7 x hx))
  rw [pB_eq]
  simp only [List.length_append]
  omega
theorem body_le {P : Pk} (h : okPack P = true) : (bodyB P).length ≤ 140737488355000 := by
  unfold okPack at h
  simp only [Bool.and_eq_true, decide_eq_true_eq] at h
  obtain ⟨k1, k2, k3, k4⟩ := h
  have h1 := length_uB 8 P.strings.length (by omega)
  have h2 := length_uB 8 P.phrases.length (by omega)
  have h3 : (sB P.strings).length ≤ P.strings.length * 70 := flat_le xB 70 P.strings (fun x hx => by
    rw [List.all_eq_true] at k3
    have := k3 x hx
    exact xB_le (by simpa [okStr] using this))
  have h4 : (psB P.phrases).length ≤ P.phrases.length * 2000 := flat_le pB 2000 P.phrases (fun f hf => by
    obtain ⟨i, hi, rfl⟩ := List.getElem_of_mem hf
    have := okTo_all k4 hi
    have e : P.phrases.getD i noPhr = P.phrases[i] := by simp [List.getD, hi]
    rw [e] at this
    exact pB_le this)
  unfold bodyB
  simp only [List.length_append, List.length_cons, List.length_nil]
  omega

/-- There are bytes of this pack, and no more than 4,000. -/
def encOk (P : Pk) : Bool := okPack P && decide ((packB P).length ≤ 4000)

def encRes (P : Pk) : Value := if encOk P then .tuple #[.string ⟨(packB P).toArray⟩, .int .i64 0] else .tuple #[.string ⟨#[]⟩, .int .i64 1]
theorem encRes_yes {P : Pk} (h : encOk P = true) : encRes P = .tuple #[.string ⟨(packB P).toArray⟩, .int .i64 0] := by unfold encRes; rw [h]; rfl
theorem encRes_no {P : Pk} (h : encOk P = false) : encRes P = .tuple #[.string ⟨#[]⟩, .int .i64 1] := by unfold encRes; rw [h]; rfl

set_option maxHeartbeats 400000 in
theorem encode_any (sa ap : Option Addr) (ns np cs cp : Nat) (P : Pk) (w : World) (hs : StrsAt w sa ns P.strings) (hp : PhrasesAt w ap np P.phrases) (hns : ns ≤ 8796093022208) (hnp : np ≤ 2199023255552) (hcp : np ≤ cp)
    (hsz : ∀ s ∈ P.strings, s.size ≤ 140737488355328) :
    Calls Tryd.prog 10 #[.agg #[.slice sa ns cs, .slice ap np cp]] w fun e w' => e = .returned (encRes P) ∧ Ext w w' := by
  have hx := (Ext.refl w).alloc (.cells #[.slice sa ns cs, .slice ap np cp] 27)
  have HC1 := hide (fun w' (h : Ext w w') => wireWithin_any sa ap ns np cs cp P w' (hs.ext h) (hp.ext h) hns hnp hcp hsz)
  have hb := OwnRow.alloc w [.slice sa ns cs, .slice ap np cp] 27
  cases hok : okPack P with
  | false =>
    have HE : Hid (encOk P = false) := by show _ = _; unfold encOk; rw [hok]; rfl
    have HER := hide (encRes_no HE.out)
    rw [hok] at HC1
    go_enter Tryd.func10, Tryd.ntmps10
    go_wp2_with fail
    refine (HC1.out _ hx).mono ?_
    rintro e w1 ⟨rfl, he1⟩
    go_wp2_with fail
    go_ret2
    exact ⟨by rw [HER.out]; rfl, hx.trans he1⟩
  | true =>
    rw [hok] at HC1
    have HC2 := hide (fun w' (h : Ext w w') => write_any sa ap ns np cs cp P w' (hs.ext h) (hp.ext h) hok (body_le hok))
    have HBL := hide (body_le hok)
    have hpl : (packB P).length ≤ 140737488355100 := by unfold packB; rw [List.length_append]; have := HBL.out; simp [sumB]; omega
    have HE : Hid (encOk P = decide ((packB P).length ≤ 4000)) := by show _ = _; unfold encOk; rw [hok]; rfl
    clear hok
    go_enter Tryd.func10, Tryd.ntmps10
    go_wp2_with fail
    refine (HC1.out _ hx).mono ?_
    rintro e w1 ⟨rfl, he1⟩
    have hc0 := (hb.ext he1).cell 0
    have hc1 := (hb.ext he1).cell 1
    simp only [List.getElem?_cons_zero, List.getElem?_cons_succ] at hc0 hc1
    go_wp2_with fail
    refine (HC2.out _ (hx.trans he1)).mono ?_
    rintro e w2 ⟨rfl, he2⟩
    generalize hpk : packB P = pk at hpl HE ⊢
    have HPK := hide hpk
    clear hpk
    by_cases h4 : pk.length ≤ 4000
    · have h4' : ¬ (4000 : Int) < pk.length := by omega
      have HE2 : Hid (encOk P = true) := by show _ = _; rw [HE.out]; exact decide_eq_true h4
      have HER : Hid (encRes P = .tuple #[.string ⟨pk.toArray⟩, .int .i64 0]) := by show _ = _; rw [encRes_yes HE2.out, HPK.out]
      go_wp2_with fail
      go_ret2
      exact ⟨by rw [HER.out]; rfl, (hx.trans he1).trans he2⟩
    · have h4' : (4000 : Int) < pk.length := by omega
      have HE2 : Hid (encOk P = false) := by show _ = _; rw [HE.out]; exact decide_eq_false h4
      have HER := hide (encRes_no HE2.out)
      go_wp2_with fail
      go_ret2
      exact ⟨by rw [HER.out]; rfl, (hx.trans he1).trans he2⟩

set_option maxHeartbeats 400000 in
theorem bytes_any (sa ap : Option Addr) (ns np cs cp : Nat) (P : Pk) (w : World) (hs : StrsAt w sa ns P.strings) (hp : PhrasesAt w ap np P.phrases) (hns : ns ≤ 8796093022208) (hnp : np ≤ 2199023255552)
    (hsz : ∀ s ∈ P.strings, s.size ≤ 140737488355328) :
    Calls Tryd.prog 6 #[.agg #[.slice sa ns cs, .slice ap np cp]] w fun e w' => ∃ s, e = .returned (.tuple #[.string s, .bool (encOk P)]) ∧ (encOk P = true → s = ⟨(packB P).toArray⟩) ∧ Ext w w' := by
  have hx := (Ext.refl w).alloc (.cells #[.slice sa ns cs, .slice ap np cp] 27)
  have HC1 := hide (fun w' (h : Ext w w') => refWithin_any sa ap ns np cs cp P w' (hs.ext h) (hp.ext h) hns hnp hsz)
  have hb := OwnRow.alloc w [.slice sa ns cs, .slice ap np cp] 27
  cases hok : okPack P with
  | false =>
    have HE : Hid (encOk P = false) := by show _ = _; unfold encOk; rw [hok]; rfl
    rw [hok] at HC1
    go_enter Tryd.func6, Tryd.ntmps6
    go_wp2_with fail
    refine (HC1.out _ hx).mono ?_
    rintro e w1 ⟨rfl, he1⟩
    go_wp2_with fail
    go_ret2
    exact ⟨⟨#[]⟩, by rw [HE.out]; rfl, fun h => absurd (HE.out.symm.trans h) (by decide), hx.trans he1⟩
  | true =>
    rw [hok] at HC1
    have HC2 := hide (fun w' (h : Ext w w') => refBytes_any sa ap ns np cs cp P w' (hs.ext h) (hp.ext h) hok (body_le hok))
    have HBL := hide (body_le hok)
    have hpl : (packB P).length ≤ 140737488355100 := by unfold packB; rw [List.length_append]; have := HBL.out; simp [sumB]; omega
    have HE : Hid (encOk P = decide ((packB P).length ≤ 4000)) := by show _ = _; unfold encOk; rw [hok]; rfl
    clear hok
    go_enter Tryd.func6, Tryd.ntmps6
    go_wp2_with fail
    refine (HC1.out _ hx).mono ?_
    rintro e w1 ⟨rfl, he1⟩
    have hc0 := (hb.ext he1).cell 0
    have hc1 := (hb.ext he1).cell 1
    simp only [List.getElem?_cons_zero, List.getElem?_cons_succ] at hc0 hc1
    go_wp2_with fail
    refine (HC2.out _ (hx.trans he1)).mono ?_
    rintro e w2 ⟨rfl, he2⟩
    generalize hpk : packB P = pk at hpl HE ⊢
    have HPK := hide hpk
    clear hpk
    by_cases h4 : pk.length ≤ 4000
    · have h4' : (pk.length : Int) ≤ 4000 := by omega
      have HE2 : Hid (encOk P = true) := by show _ = _; rw [HE.out]; exact decide_eq_true h4
      go_wp2_with fail
      go_ret2
      exact ⟨⟨pk.toArray⟩, by rw [HE2.out]; rfl, fun _ => by rw [HPK.out], (hx.trans he1).trans he2⟩
    · have h4' : decide ((pk.length : Int) ≤ 4000) = false := decide_eq_false (by omega)
      have HE2 : Hid (encOk P = false) := by show _ = _; rw [HE.out]; exact decide_eq_false h4
      go_wp2_with fail
      go_ret2
      exact ⟨⟨pk.toArray⟩, by rw [HE2.out]; rfl, fun h => absurd (HE2.out.symm.trans h) (by decide), (hx.trans he1).trans he2⟩

end Go.Proofs.YtkhenmpdlnhgjaaDoor
