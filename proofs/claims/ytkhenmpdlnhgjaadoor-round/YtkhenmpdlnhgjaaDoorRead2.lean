import Derived.Test.YtkhenmpdlnhgjaaDoorRead
namespace Go.Proofs.YtkhenmpdlnhgjaaDoor
open Go.RowKit

/-- A pack that was read, in rows of one's own from block B on. -/
def ReadPk (w : World) (B : Nat) (v : Value) (P : Pk) : Prop :=
  ∃ sa ns cs ap np cp vs, v = .agg #[.slice sa ns cs, .slice ap np cp] ∧ w.ownsRow B 9 1 (.slice sa ns cs) P.strings.length (strs P.strings) ∧ w.ownsRow B 41 3 (.slice ap np cp) vs.length (trips vs) ∧ PEntries w B vs P.phrases

theorem PEntries.other {B b : Nat} {w : World} {vs : List Trip} {ps : List Phr} {D : List Value} {t : TypeId} (h : PEntries w B vs ps) (hb : OwnRow w b D t) (h1 : t ≠ 3) (h2 : t ≠ 36) (i : Nat) (u : Value) : PEntries (w.setCell ⟨b, i, none⟩ u) B vs ps := by
  refine ⟨h.1, fun j hj => ?_⟩
  obtain ⟨va, vc, e1, e2, e3⟩ := h.2 j hj
  exact ⟨va, vc, e1, ownsOther e2 hb h1 i, ownsOther e3 hb h2 i⟩
theorem PEntries.base {B B' : Nat} {w : World} {vs : List Trip} {ps : List Phr} (h : PEntries w B vs ps) (hb : B' ≤ B) : PEntries w B' vs ps := by
  refine ⟨h.1, fun j hj => ?_⟩
  obtain ⟨va, vc, e1, e2, e3⟩ := h.2 j hj
  exact ⟨va, vc, e1, ownsBase e2 hb, ownsBase e3 hb⟩
theorem ownsExt {B : Nat} {w w' : World} {e : TypeId} {sz n : Nat} {v : Value} {xs : List Value} (h : w.ownsRow B e sz v n xs) (k : Ext w w') : w'.ownsRow B e sz v n xs := by
  refine ⟨h.1, ?_⟩
  rcases h.2 with h2 | ⟨g, cap, cur, h3, h4, h5, h6⟩
  · exact .inl h2
  · exact .inr ⟨g, cap, cur, h3, h4, by rw [k.block g (Array.getElem?_eq_some_iff.1 h5).1]; exact h5, h6⟩
theorem PEntries.ext {B : Nat} {w w' : World} {vs : List Trip} {ps : List Phr} (h : PEntries w B vs ps) (k : Ext w w') : PEntries w' B vs ps := by
  refine ⟨h.1, fun j hj => ?_⟩
  obtain ⟨va, vc, e1, e2, e3⟩ := h.2 j hj
  exact ⟨va, vc, e1, ownsExt e2 k, ownsExt e3 k⟩
theorem ReadPk.ext {w w' : World} {B : Nat} {v : Value} {P : Pk} (h : ReadPk w B v P) (k : Ext w w') : ReadPk w' B v P := by
  obtain ⟨sa, ns, cs, ap, np, cp, vs, h1, h2, h3, h4⟩ := h
  exact ⟨sa, ns, cs, ap, np, cp, vs, h1, ownsExt h2 k, ownsExt h3 k, h4.ext k⟩

set_option maxRecDepth 100000 in
set_option maxHeartbeats 2000000 in
theorem read_any (bs : List UInt8) (et : TypeId) (ev : Value) (w : World) (hl : bs.length ≤ 140737488355328) (hE : w.cell? ⟨0, 0, none⟩ = some (.iface et ev)) :
    Calls Tryd.prog 39 #[.string ⟨bs.toArray⟩] w fun e w' => Outc (pPack bs) (fun P => ∃ v, e = .returned v ∧ ReadPk w' w.heap.size v P ∧ (∀ f ∈ P.phrases, PSized f) ∧ Ext w w') (e = Gave et ev ∧ Ext w w') := by
  have HT : Hid (pPack bs = (pSeal bs).bind fun body => (pTake 3 body).bind fun h => if h.1 = [80, 66, 1] then (pList pText h.2).bind fun x => (pList pPhr x.2).bind fun y => if y.2 = [] ∧ okPack ⟨x.1, y.1⟩ = true then some ⟨x.1, y.1⟩ else none else none) := rfl
  have h00 : 0 < w.heap.size := lt_of_cell hE
  have hmf := run_makeFunc
  go_enter Tryd.func39, Tryd.ntmps39
  go_wp2_with fail
  obtain ⟨W1, HW⟩ : ∃ W1, Hid (W1 = w.alloc (.cells #[.slice none 0 0, .slice none 0 0] 27)) := ⟨_, rfl⟩
  have hx1 : Ext w W1 := by rw [HW.out]; exact (Ext.refl w).alloc _
  have hb1 : OwnRow W1 w.heap.size [.slice none 0 0, .slice none 0 0] 27 := by rw [HW.out]; exact OwnRow.alloc w [.slice none 0 0, .slice none 0 0] 27
  rw [← HW.out]
  clear HW
  refine (unseal_any bs et ev W1 hl (hx1.cell hE)).mono ?_
  intro e w2 hO
  cases hS : pSeal bs with
  | none =>
    obtain ⟨rfl, hx⟩ := hO.no hS
    exact ⟨rfl, outc_no (by rw [HT.out, hS]; rfl) ⟨rfl, hx1.trans hx⟩⟩
  | some body =>
    obtain ⟨rfl, hx⟩ := hO.yes hS
    have hbl : body.length ≤ bs.length := by
      unfold pSeal at hS
      split at hS
      · simp only [Option.some.injEq] at hS; rw [← hS]; simp
      · simp at hS
    have HT1 : Hid (pPack bs = (pTake 3 body).bind fun h => if h.1 = [80, 66, 1] then (pList pText h.2).bind fun x => (pList pPhr x.2).bind fun y => if y.2 = [] ∧ okPack ⟨x.1, y.1⟩ = true then some ⟨x.1, y.1⟩ else none else none) := by show _ = _; rw [HT.out, hS]; rfl
    have hx2 := hx1.trans hx
    have hb2 := hb1.ext hx
    clear hO hS HT hx1 hb1 hx
    go_wp2_with fail
    obtain ⟨W3, HW⟩ : ∃ W3, Hid (W3 = w2.alloc (.cells #[.string ⟨body.toArray⟩] 90)) := ⟨_, rfl⟩
    have hx3 : Ext w2 W3 := by rw [HW.out]; exact (Ext.refl w2).alloc _
    have hrd : RD W3 w2.heap.size body := by rw [HW.out]; exact OwnRow.alloc w2 [.string ⟨body.toArray⟩] 90
    rw [← HW.out]
    clear HW
    have hE3 := (hx2.trans hx3).cell hE
    have hg : w.heap.size < w2.heap.size := hb2.lt
    have hb3 := hb2.ext hx3
    have hxw := hx2.trans hx3
    have hgl : w2.heap.size < W3.heap.size := OwnRow.lt hrd
    clear hb2 hx2 hx3
    generalize hgg : w2.heap.size = g at hrd hg hgl ⊢
    clear hgg
    by_cases h3 : 3 ≤ body.length
    · refine (take_yes g 3 body W3 hrd h3 (by omega)).mono ?_
      rintro e w4 ⟨rfl, hrd4, hk4⟩
      have hE4 := hk4.cell hE3 (by omega)
      have hb4 := hk4.row hb3 (by omega)
      have hx4 : Ext w w4 := KG.ext hxw (by omega) hk4
      have hg4 : g < w4.heap.size := OwnRow.lt hrd4
      by_cases hh : body.take 3 = [80, 66, 1]
      · have HT2 : Hid (pPack bs = (pList pText (body.drop 3)).bind fun x => (pList pPhr x.2).bind fun y => if y.2 = [] ∧ okPack ⟨x.1, y.1⟩ = true then some ⟨x.1, y.1⟩ else none) := by
          show _ = _
          rw [HT1.out]
          simp [pTake, h3, hh]
        have hcmp : (!((⟨(body.take 3).toArray⟩ : ByteArray).toList == [80, 66, 1])) = false := by rw [toList_mk, hh]; rfl
        have hdl : (body.drop 3).length ≤ body.length := by simp
        generalize body.drop 3 = r at hrd4 HT2 hdl
        generalize (⟨(body.take 3).toArray⟩ : ByteArray) = hd at hcmp
        clear hh hb3 hE3 hk4 hrd HT1 hxw
        go_wp2_with fail
        obtain ⟨W5, HW⟩ : ∃ W5, Hid (W5 = w4.alloc (.cells #[.slice none 0 0, .slice none 0 0] 27)) := ⟨_, rfl⟩
        have hx5 : Ext w4 W5 := by rw [HW.out]; exact (Ext.refl w4).alloc _
        have hp5 : OwnRow W5 w4.heap.size [.slice none 0 0, .slice none 0 0] 27 := by rw [HW.out]; exact OwnRow.alloc w4 [.slice none 0 0, .slice none 0 0] 27
        rw [← HW.out]
        clear HW
        have hE5 := hx5.cell hE4
        have hrd5 := hrd4.ext hx5
        have hb5 := hb4.ext hx5
        have hxw5 := hx4.trans hx5
        have hg4w : g < w4.heap.size := hg4
        clear hE4 hrd4 hb4 hx4 hx5
        generalize hpp : w4.heap.size = pb at hp5 hg4 hg4w ⊢
        clear hpp
        refine (listText_any g r et ev W5 hrd5 (by omega) (by omega) hE5).mono ?_
        intro e w6 hO
        cases hN : pList pText r with
        | none =>
          obtain ⟨rfl, hk⟩ := hO.no hN
          exact ⟨rfl, outc_no (by rw [HT2.out, hN]; rfl) ⟨rfl, KG.ext hxw5 (by omega) hk⟩⟩
        | some x =>
          obtain ⟨vS, rfl, hoS, hrd6, hk6⟩ := hO.yes hN
          obtain ⟨ss, r1⟩ := x
          have hzS : ∀ s ∈ ss, s.size ≤ 140737488355328 := pList_all (m := 140737488355328) (p := fun s : ByteArray => s.size ≤ 140737488355328) (fun bs x h hm => ⟨by have := (pText_le h).1; omega, (pText_le h).2⟩) hN (by omega)
          have hsl := pList_len hN
          have hr1 := pList_le (fun bs x h => (pText_le h).2) hN
          simp only at hoS hrd6 hk6 hzS hsl hr1
          have HT3 : Hid (pPack bs = (pList pPhr r1).bind fun y => if y.2 = [] ∧ okPack ⟨ss, y.1⟩ = true then some ⟨ss, y.1⟩ else none) := by show _ = _; rw [HT2.out, hN]; rfl
          have hoS' := ownsBase (B' := g + 1) hoS (OwnRow.lt hrd5)
          have hp6 := hk6.row hp5 (by omega)
          have hb6 := hk6.row hb5 (by omega)
          have hE6 := hk6.cell hE5 (by omega)
          have hxw6 : Ext w w6 := KG.ext hxw5 (by omega) hk6
          obtain ⟨sa, ns, cs, hvS⟩ := ownsSlice hoS'
          subst hvS
          clear hO hN hoS hp5 hb5 hE5 hxw5 hk6 HT2 hrd5
          have g0 := hp6.cell 0
          have f0 := hp6.frozen 0
          simp only [List.getElem?_cons_zero] at g0
          go_wp2_with fail
          have hp7 := hp6.set 0 (.slice sa ns cs)
          simp only [List.set_cons_zero] at hp7
          have hrd7 : RD (w6.setCell ⟨pb, 0, none⟩ (.slice sa ns cs)) g r1 := OwnRow.other hrd6 (by omega) _ _
          have hE7 : (w6.setCell ⟨pb, 0, none⟩ (.slice sa ns cs)).cell? ⟨0, 0, none⟩ = some (.iface et ev) := by
            rw [World.cell?_setCell_other]; exact hE6
            simp <;> omega
          have hb7 := hb6.other (b := pb) (by omega) 0 (.slice sa ns cs)
          have hxw7 := hxw6.setCell (b := pb) (i := 0) (by omega) (.slice sa ns cs)
          have hoS7 := ownsOther (u := .slice sa ns cs) hoS' hp6 (by decide) 0
          clear hp6 hrd6 hE6 hb6 hxw6 hoS' g0 f0
          generalize w6.setCell ⟨pb, 0, none⟩ (.slice sa ns cs) = w7 at hp7 hrd7 hE7 hb7 hxw7 hoS7 ⊢
          refine (listPhr_any g r1 et ev w7 hrd7 (by omega) (by omega) hE7).mono ?_
          intro e w8 hO
          cases hN : pList pPhr r1 with
          | none =>
            obtain ⟨rfl, hk⟩ := hO.no hN
            exact ⟨rfl, outc_no (by rw [HT3.out, hN]; rfl) ⟨rfl, KG.ext hxw7 (by omega) hk⟩⟩
          | some x =>
            obtain ⟨vP, vs, rfl, hoP, hent, hrd8, hk8⟩ := hO.yes hN
            obtain ⟨ps, r2⟩ := x
            have hzP : ∀ f ∈ ps, PSized f := pList_all (m := 140737488355328) (p := PSized) (fun bs x h hm => pPhr_sized h hm) hN (by omega)
            have hpl := pList_len hN
            simp only at hoP hent hrd8 hk8 hzP hpl
            have HT4 : Hid (pPack bs = if r2 = [] ∧ okPack ⟨ss, ps⟩ = true then some ⟨ss, ps⟩ else none) := by show _ = _; rw [HT3.out, hN]; rfl
            have hoP' := ownsBase (B' := g + 1) hoP (OwnRow.lt hrd7)
            have hent' := hent.base (B' := g + 1) (OwnRow.lt hrd7)
            have hp8 := hk8.row hp7 (by omega)
            have hb8 := hk8.row hb7 (by omega)
            have hE8 := hk8.cell hE7 (by omega)
            have hxw8 : Ext w w8 := KG.ext hxw7 (by omega) hk8
            have hoS8 := ownsKG hoS7 hk8 (by omega)
            obtain ⟨ap, np, cp, hvP⟩ := ownsSlice hoP'
            subst hvP
            clear hO hN hoP hent hp7 hb7 hE7 hxw7 hk8 HT3 hrd7 hoS7
            have g1 := hp8.cell 1
            have f1 := hp8.frozen 1
            have gr := OwnRow.cell hrd8 0
            simp only [List.getElem?_cons_zero, List.getElem?_cons_succ] at g1 gr
            have hp9 := hp8.set 1 (.slice ap np cp)
            simp only [List.set_cons_zero, List.set_cons_succ] at hp9
            have hrd9 : RD (w8.setCell ⟨pb, 1, none⟩ (.slice ap np cp)) g r2 := OwnRow.other hrd8 (by omega) _ _
            have hE9 : (w8.setCell ⟨pb, 1, none⟩ (.slice ap np cp)).cell? ⟨0, 0, none⟩ = some (.iface et ev) := by
              rw [World.cell?_setCell_other]; exact hE8
              simp
            have hb9 := hb8.other (b := pb) (by omega) 1 (.slice ap np cp)
            have hxw9 := hxw8.setCell (b := pb) (i := 1) (by omega) (.slice ap np cp)
            have hoS9 := ownsOther (u := .slice ap np cp) hoS8 hp8 (by decide) 1
            have hoP9 := ownsOther (u := .slice ap np cp) hoP' hp8 (by decide) 1
            have hent9 := hent'.other hp8 (by decide) (by decide) 1 (.slice ap np cp)
            have gr9 : (w8.setCell ⟨pb, 1, none⟩ (.slice ap np cp)).cell? ⟨g, 0, none⟩ = some (.string ⟨r2.toArray⟩) := OwnRow.cell hrd9 0
            have gp0 : (w8.setCell ⟨pb, 1, none⟩ (.slice ap np cp)).cell? ⟨pb, 0, none⟩ = some (.slice sa ns cs) := hp9.cell 0
            have gp1 : (w8.setCell ⟨pb, 1, none⟩ (.slice ap np cp)).cell? ⟨pb, 1, none⟩ = some (.slice ap np cp) := hp9.cell 1
            obtain ⟨hnsEq, hncs, hstrs⟩ := strsAt_of_owns hoS9 rfl
            obtain ⟨hnpEq, hncp, hphr⟩ := phrasesAt_of_owns hoP9 rfl hent9 hzP
            have hnp2 : np ≤ 2147483647 := by rw [hnpEq, hent9.1]; exact hpl
            have hns2 : ns ≤ 2147483647 := by rw [hnsEq]; exact hsl
            clear hp8 hrd8 hE8 hb8 hxw8 hoS8 hoP' hent' gr hnsEq hnpEq hp9
            cases r2 with
            | cons c r2 =>
              have HN : Hid (pPack bs = none) := by show _ = _; rw [HT4.out, if_neg (by simp)]
              have hcm : (⟨(c :: r2).toArray⟩ : ByteArray).toList.isEmpty = false := by rw [toList_mk]; rfl
              generalize (⟨(c :: r2).toArray⟩ : ByteArray) = rr at gr9 hcm
              go_wp2_with fail
              exact ⟨rfl, outc_no HN.out ⟨rfl, hxw9⟩⟩
            | nil =>
              have hcm : (⟨([] : List UInt8).toArray⟩ : ByteArray).toList.isEmpty = true := by rw [toList_mk]; rfl
              generalize (⟨([] : List UInt8).toArray⟩ : ByteArray) = rr at gr9 hcm
              cases hok : okPack ⟨ss, ps⟩ with
              | false =>
                have HN : Hid (pPack bs = none) := by show _ = _; rw [HT4.out, if_neg (by rw [hok]; simp)]
                go_wp2_with fail
                refine (wireWithin_any sa ap ns np cs cp ⟨ss, ps⟩ _ hstrs hphr (by omega) (by omega) hncp hzS).mono ?_
                rintro e wA ⟨rfl, heA⟩
                rw [hok]
                have hEA := heA.cell hE9
                go_wp2_with fail
                exact ⟨rfl, outc_no HN.out ⟨rfl, hxw9.trans heA⟩⟩
              | true =>
                have HN : Hid (pPack bs = some ⟨ss, ps⟩) := by show _ = _; rw [HT4.out, if_pos ⟨rfl, hok⟩]
                go_wp2_with fail
                refine (wireWithin_any sa ap ns np cs cp ⟨ss, ps⟩ _ hstrs hphr (by omega) (by omega) hncp hzS).mono ?_
                rintro e wA ⟨rfl, heA⟩
                rw [hok]
                have hb10 := hb9.ext heA
                have hq0 := heA.cell gp0
                have hq1 := heA.cell gp1
                have k0 := hb10.cell 0
                have k1 := hb10.cell 1
                have l0 := hb10.frozen 0
                have l1 := hb10.frozen 1
                simp only [List.getElem?_cons_zero, List.getElem?_cons_succ] at k0 k1
                go_wp2_with fail
                have hS10 := ownsExt hoS9 heA
                have hP10 := ownsExt hoP9 heA
                have hEn10 := hent9.ext heA
                have hS11 := ownsOther (u := .slice sa ns cs) hS10 hb10 (by decide) 0
                have hP11 := ownsOther (u := .slice sa ns cs) hP10 hb10 (by decide) 0
                have hEn11 := hEn10.other hb10 (by decide) (by decide) 0 (.slice sa ns cs)
                have hb11 := hb10.set 0 (.slice sa ns cs)
                have hS12 := ownsOther (u := .slice ap np cp) hS11 hb11 (by decide) 1
                have hP12 := ownsOther (u := .slice ap np cp) hP11 hb11 (by decide) 1
                have hEn12 := hEn11.other hb11 (by decide) (by decide) 1 (.slice ap np cp)
                have hb12 := hb11.set 1 (.slice ap np cp)
                simp only [List.set_cons_zero, List.set_cons_succ] at hb12
                have hxf := ((hxw9.trans heA).setCell (b := w.heap.size) (i := 0) (Nat.le_refl _) (.slice sa ns cs)).setCell (b := w.heap.size) (i := 1) (Nat.le_refl _) (.slice ap np cp)
                have z0 := hb12.cell 0
                have z1 := hb12.cell 1
                simp only [List.getElem?_cons_zero, List.getElem?_cons_succ] at z0 z1
                have hgw : w.heap.size ≤ g + 1 := by omega
                refine bodyPost_ret (v := .agg #[.slice sa ns cs, .slice ap np cp]) ?_ rfl (outc_yes HN.out ⟨_, rfl, ⟨sa, ns, cs, ap, np, cp, vs, rfl, ownsBase hS12 hgw, ownsBase hP12 hgw, hEn12.base hgw⟩, hzP, hxf⟩)
                clear hS10 hP10 hEn10 hS11 hP11 hEn11 hb11 hS12 hP12 hEn12 hb12 hxf k0 k1 l0 l1 hq0 hq1
                generalize ((wA.setCell ⟨w.heap.size, 0, none⟩ (.slice sa ns cs)).setCell ⟨w.heap.size, 1, none⟩ (.slice ap np cp)) = wf at z0 z1 ⊢
                simp [results, Tryd.results39, go_sem, z0, z1]
      · have HT2 : Hid (pPack bs = none) := by show _ = _; rw [HT1.out]; simp [pTake, h3, hh]
        have hcmp : (!((⟨(body.take 3).toArray⟩ : ByteArray).toList == [80, 66, 1])) = true := by rw [toList_mk]; simpa using hh
        generalize (⟨(body.take 3).toArray⟩ : ByteArray) = hd at hcmp
        clear hh hb3 hE3 hk4 hrd HT1 hxw
        go_wp2_with fail
        exact ⟨rfl, outc_no HT2.out ⟨rfl, hx4⟩⟩
    · have HT2 : Hid (pPack bs = none) := by show _ = _; rw [HT1.out]; simp [pTake, h3]
      refine (take_no g 3 body et ev W3 hrd h3 (by omega) (by omega) hE3).mono ?_
      rintro e w4 ⟨rfl, hk4⟩
      exact ⟨rfl, outc_no HT2.out ⟨rfl, KG.ext hxw (by omega) hk4⟩⟩

end Go.Proofs.YtkhenmpdlnhgjaaDoor
