import Derived.Test.YtkhenmpdlnhgjaaDoorRdPhr
namespace Go.Proofs.YtkhenmpdlnhgjaaDoor
open Go.RowKit

/-- A phrase that was read: its lists in rows of one's own. -/
def PEntry (w : World) (B : Nat) (t : Trip) (f : Phr) : Prop :=
  ∃ va vc, t = (.string f.name, va, vc) ∧ w.ownsRow B 3 1 va f.args.length (ints f.args) ∧ w.ownsRow B 36 3 vc f.code.length (codes f.code)
def PEntries (w : World) (B : Nat) (vs : List Trip) (ps : List Phr) : Prop := vs.length = ps.length ∧ ∀ i, i < vs.length → PEntry w B (vs.getD i zero3) (ps.getD i noPhr)
theorem PEntry.kg {g B : Nat} {w w' : World} {t : Trip} {f : Phr} (h : PEntry w B t f) (k : KG g w w') (hg : g < B) : PEntry w' B t f := by
  obtain ⟨va, vc, h1, h2, h3⟩ := h
  exact ⟨va, vc, h1, ownsKG h2 k hg, ownsKG h3 k hg⟩
theorem PEntries.kg {g B : Nat} {w w' : World} {vs : List Trip} {ps : List Phr} (h : PEntries w B vs ps) (k : KG g w w') (hg : g < B) : PEntries w' B vs ps := ⟨h.1, fun i hi => (h.2 i hi).kg k hg⟩
theorem owns_type {B B' : Nat} {w w' : World} {e e' : TypeId} {sz sz' n n' : Nat} {v u : Value} {xs ys : List Value} (h : w.ownsRow B e sz v n xs) (k : w.grownBy w' u.ownBlock) (hu : w.ownsRow B' e' sz' u n' ys) (hne : e ≠ e') : w'.ownsRow B e sz v n xs := by
  refine World.ownsRow.kept h k ?_
  rcases h.2 with ⟨rfl, _⟩ | ⟨g, cap, cur, rfl, _, hg, _⟩
  · exact .inl rfl
  · refine .inr ?_
    rcases hu.2 with ⟨rfl, _⟩ | ⟨g', cap', cur', rfl, _, hg', _⟩
    · simp [Value.ownBlock]
    · intro e2
      simp only [Value.ownBlock, Option.some.injEq] at e2
      subst e2
      rw [hg] at hg'
      simp at hg'
      exact hne hg'.2
theorem PEntries.grown {B B' : Nat} {w w' : World} {vs : List Trip} {ps : List Phr} {sz' n' : Nat} {u : Value} {ys : List Value} (h : PEntries w B vs ps) (hu : w.ownsRow B' 41 sz' u n' ys) (k : w.grownBy w' u.ownBlock) : PEntries w' B vs ps := by
  refine ⟨h.1, fun i hi => ?_⟩
  obtain ⟨va, vc, h1, h2, h3⟩ := h.2 i hi
  exact ⟨va, vc, h1, owns_type h2 k hu (by decide), owns_type h3 k hu (by decide)⟩
theorem PEntries.push {B : Nat} {w : World} {vs : List Trip} {ps : List Phr} (h : PEntries w B vs ps) {t : Trip} {f : Phr} (e : PEntry w B t f) : PEntries w B (vs ++ [t]) (ps ++ [f]) := by
  refine ⟨by simp [h.1], fun i hi => ?_⟩
  by_cases h' : i < vs.length
  · have hg : (vs ++ [t]).getD i zero3 = vs.getD i zero3 := by simp [List.getD, List.getElem?_append_left h']
    have hp : (ps ++ [f]).getD i noPhr = ps.getD i noPhr := by simp [List.getD, List.getElem?_append_left (show i < ps.length by rw [← h.1]; exact h')]
    rw [hg, hp]; exact h.2 i h'
  · have : i = vs.length := by simp at hi; omega
    subst this
    have hg : (vs ++ [t]).getD vs.length zero3 = t := by simp [List.getD]
    have hp : (ps ++ [f]).getD vs.length noPhr = f := by rw [h.1]; simp [List.getD]
    rw [hg, hp]; exact e
theorem pPhr_le {bs : List UInt8} {x : Phr × List UInt8} (h : pPhr bs = some x) : x.2.length ≤ bs.length := by
  unfold pPhr at h
  obtain ⟨a, ha, h⟩ := Option.bind_eq_some_iff.1 h
  obtain ⟨b, hb, h⟩ := Option.bind_eq_some_iff.1 h
  obtain ⟨c, hc, rfl⟩ := Option.map_eq_some_iff.1 h
  have h1 := (pText_le ha).2
  have h2 := pList_le (fun bs x h => (pKind_le h).2.2) hb
  have h3 := pList_le (fun bs x h => pIns_le h) hc
  simp only; omega

set_option maxHeartbeats 1000000 in
theorem listPhr_any (g : Nat) (bs : List UInt8) (et : TypeId) (ev : Value) (w : World) (h : RD w g bs) (hl : bs.length ≤ 140737488355328) (hg : 0 < g) (hE : w.cell? ⟨0, 0, none⟩ = some (.iface et ev)) :
    Calls Tryd.prog 48 #[.pointer (some ⟨g, 0, none⟩), .func (.func 49) #[.pointer (some ⟨g, 0, none⟩)] #[]] w fun e w' =>
      Outc (pList pPhr bs) (fun x => ∃ v' vs, e = .returned v' ∧ w'.ownsRow w.heap.size 41 3 v' vs.length (trips vs) ∧ PEntries w' w.heap.size vs x.1 ∧ RD w' g x.2 ∧ KG g w w') (e = Gave et ev ∧ KG g w w') := by
  have hgl : g < w.heap.size := OwnRow.lt h
  go_enter Tryd.func48, Tryd.ntmps48
  go_wp2_with fail
  refine (number_any g bs et ev w h hl hg hE).mono ?_
  intro e w1 hO
  cases hN : pNum bs with
  | none =>
    obtain ⟨rfl, hk⟩ := hO.no hN
    exact ⟨rfl, outc_no (by unfold pList; rw [hN]; rfl) ⟨rfl, hk⟩⟩
  | some x =>
    obtain ⟨rfl, hr1, hk1⟩ := hO.yes hN
    obtain ⟨n, r0⟩ := x
    have hle := pNum_le hN
    simp only at hr1 hk1 hle
    have HL : Hid (pList pPhr bs = pMany pPhr n r0) := by show _ = _; unfold pList; rw [hN]; rfl
    have hE1 := hk1.cell hE (by omega)
    have hn63 : n ≤ 2147483647 := hle.1
    have hr0l : r0.length ≤ 140737488355328 := by omega
    clear hO hN hle
    go_wp2_with fail
    go_loopw [5, 8] (fun a i wr => ∃ (k : Nat) (xs : List Phr) (vs : List Trip) (r : List UInt8), k ≤ n ∧ i = .int .i64 k ∧ pMany pPhr k r0 = some (xs, r) ∧ xs.length = k ∧ r.length ≤ r0.length ∧ RD wr g r ∧ KG g w wr ∧ wr.ownsRow w.heap.size 41 3 a vs.length (trips vs) ∧ PEntries wr w.heap.size vs xs) (fun _ i _ => n - (intOf i).toNat)
    case atStart => exact ⟨0, [], [], r0, Nat.zero_le _, rfl, rfl, rfl, Nat.le_refl _, hr1, hk1, World.ownsRow_nil _ _ _ _, rfl, fun i hi => absurd hi (Nat.not_lt_zero _)⟩
    case round =>
      obtain ⟨k, xs, vs, r, hk, rfl, hpm, hxl, hrl, hrd, hkg, hown, hent⟩ := hrel
      have HPM := hide hpm
      have HXL := hide hxl
      have hE2 := hkg.cell hE (by omega)
      clear hpm hxl hr1 hk1 hE1
      by_cases hlt : k < n
      · go_wp2_with fail
        refine (phrase_any g r et ev wr hrd (by omega) hg hE2).mono ?_
        intro e w2 hO
        cases hN : pPhr r with
        | none =>
          obtain ⟨rfl, hk2⟩ := hO.no hN
          exact ⟨rfl, outc_no (by rw [HL.out]; exact pMany_none (pMany_stop HPM.out hN) n (by omega)) ⟨rfl, hkg.trans hk2⟩⟩
        | some x =>
          obtain ⟨va, vc, rfl, hoa, hoc, hr2, hk2⟩ := hO.yes hN
          have HNX := hide (pMany_succ HPM.out hN)
          have hle2 := pPhr_le hN
          obtain ⟨⟨nm, args, code⟩, r'⟩ := x
          simp only at hoa hoc hr2 hk2 HNX hle2
          have hoa' := ownsBase hoa hkg.size
          have hoc' := ownsBase hoc hkg.size
          have hent2 := hent.kg hk2 hgl
          have HVL : Hid (vs.length = k) := hent.1.trans HXL.out
          obtain ⟨va0, van, vac, hva⟩ : ∃ a n c, va = .slice a n c := ownsSlice hoa'
          subst hva
          obtain ⟨vc0, vcn, vcc, hvc⟩ : ∃ a n c, vc = .slice a n c := ownsSlice hoc'
          subst hvc
          have hx3 : Ext w2 (w2.alloc (.cells #[.string nm, .slice va0 van vac, .slice vc0 vcn vcc] 41)) := (Ext.refl w2).alloc _
          have hown2 := ownsKG hown hk2 hgl
          have hkg2 := hkg.trans hk2
          clear hO hN hown hkg hk2 hent hoa hoc
          go_wp2_with (at_builtin; refine wpList_append_own _ rfl _ _ 25 rfl w.heap.size 41 Tryd.t41 (.agg #[.string ByteArray.empty, .slice none 0 0, .slice none 0 0]) 3 64 Tryd.underlying25 info_phrase (by kernel_rfl) (by kernel_rfl) (by kernel_rfl) (by kernel_rfl) (by omega) _ vs.length (trips vs) rfl (ownsKG hown2 (KG.of_ext ((Ext.refl w2).alloc _)) hgl) ⟨w2.heap.size, 0, none⟩ 1 1 [.string nm, .slice va0 van vac, .slice vc0 vcn vcc] rfl (by simp) (cell_three w2 _ _ _ _) (by simp [Value.oneCell']) (by unfold maxLen; have := HVL.out; omega) (by have := HVL.out; omega) (Nat.le_trans hkg2.size ((Ext.refl w2).alloc _).size) ?_; intro v3 w3 ho3 hg3 hn3)
          have hrow : ∀ b, Value.ownBlock u5 = some b → w.heap.size ≤ b := fun b hb => (World.ownsRow.lt hown2 b hb).1
          have hrd3 : RD w3 g r' := rdGrown (hr2.ext ((Ext.refl w2).alloc _)) hg3 (fun e => by have := hrow g e; omega)
          have hkg3 : KG g w w3 := (hkg2.trans (KG.of_ext ((Ext.refl w2).alloc _))).grown hg3 hrow
          go_roundw
          case rel =>
            refine ⟨k + 1, xs ++ [⟨nm, args, code⟩], vs ++ [(.string nm, .slice va0 van vac, .slice vc0 vcn vcc)], r', by omega, by go_num, HNX.out, by simp [HXL.out], by omega, hrd3, hkg3, ?_, ?_⟩
            · have e : trips (vs ++ [(.string nm, .slice va0 van vac, .slice vc0 vcn vcc)]) = trips vs ++ [.string nm, .slice va0 van vac, .slice vc0 vcn vcc] := by simp [trips]
              rw [e, List.length_append]; exact ho3
            · have hW := ownsKG hown2 (KG.of_ext hx3) hgl
              refine PEntries.push ((hent2.kg (KG.of_ext hx3) hgl).grown hW hg3) ⟨_, _, rfl, owns_type (ownsKG hoa' (KG.of_ext hx3) hgl) hg3 hW (by decide), owns_type (ownsKG hoc' (KG.of_ext hx3) hgl) hg3 hW (by decide)⟩
          case measure => simp [intOf]; omega
      · have hkn : k = n := by omega
        subst hkn
        go_wp2_with fail
        go_ret
        exact outc_yes (HL.out.trans HPM.out) ⟨_, vs, rfl, hown, hent, hrd, hkg⟩


end Go.Proofs.YtkhenmpdlnhgjaaDoor
