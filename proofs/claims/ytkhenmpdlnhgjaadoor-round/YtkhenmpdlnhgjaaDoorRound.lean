import Derived.Test.YtkhenmpdlnhgjaaDoorRnd2
import Derived.Test.YtkhenmpdlnhgjaaDoorDecodes
import Derived.Deep.Slices
import Derived.Deep.Strs
import Derived.Lib.SmallJoins
namespace Go.Proofs.YtkhenmpdlnhgjaaDoor
open Go.ChangeShapes Go.WideShapes Go.ChangeAt Go.RowKit Go.Deep Go.Joins

/-- No part of a datum is wider than the form's reach. -/
def Light {H : Type} (t : TypeId) (d : DataW H) : Prop := ∀ n ∈ d.weights Tryd.prog t, n ≤ reachBytes

theorem weights_mem_all {H : Type} {P : Program} {e : TypeId} {d : DataW H} {n : Nat} (hn : n ∈ d.weights P e) : ∀ {ds : List (DataW H)}, d ∈ ds → n ∈ DataW.weightsAll P e ds
  | x :: ds, h => by
    unfold DataW.weightsAll
    rw [List.mem_append]
    rcases List.mem_cons.1 h with rfl | h
    · exact .inl hn
    · exact .inr (weights_mem_all hn h)
theorem Light.len {H : Type} {t e : TypeId} {elems spare : List (DataW H)} (h : Light t (.slice elems spare)) (ht : Tryd.prog.underlying t = some (.slice e)) : elems.length * Tryd.prog.bytesOf e ≤ reachBytes := by
  have := h ((elems.length + spare.length) * Tryd.prog.bytesOf e) (by unfold DataW.weights; rw [ht]; simp)
  rw [Nat.add_mul] at this
  omega
theorem Light.elem {H : Type} {t e : TypeId} {elems spare : List (DataW H)} (h : Light t (.slice elems spare)) (ht : Tryd.prog.underlying t = some (.slice e)) {d : DataW H} (hd : d ∈ elems) : Light e d := by
  intro n hn
  refine h n ?_
  unfold DataW.weights
  rw [ht]
  simp only [List.mem_cons, List.mem_append]
  exact .inr (.inl (weights_mem_all hn hd))
theorem addr_add {b o : Nat} (i : Nat) : (⟨b, o, none⟩ : Addr).add i = ⟨b, o + i, none⟩ := by
  unfold Addr.add; split
  · next e => subst e; rfl
  · rfl
theorem inR_of_wf {n : Int} (h : (Lit.int .i64 n).wf = true) : InR n := by
  have e1 : IntKind.min .i64 = -9223372036854775808 := by decide
  have e2 : IntKind.max .i64 = 9223372036854775807 := by decide
  simp only [Lit.wf, e1, e2, decide_eq_true_eq, Bool.and_eq_true] at h
  exact h

section
variable {H : Type} {enc : TypeId × Value → H} {w : World}

theorem bytesOf_int : Tryd.prog.bytesOf 3 = 8 := by kernel_rfl
theorem bytesOf_string : Tryd.prog.bytesOf 9 = 16 := by kernel_rfl

theorem open_strs {fuel : Nat} {v : Value} {x : DataW H × List MemPlace} (h : DataW.trod enc Tryd.prog w 0 (fun _ => true) true fuel 24 [v] = some x) (hl : Light 24 x.1) :
    ∃ a n c ss, v = .slice a n c ∧ StrsAt w a n ss ∧ n ≤ 8796093022208 ∧ ∀ s ∈ ss, s.size ≤ 140737488355328 := by
  rcases open_slice1 Tryd.underlying24 (by kernel_rfl) h with ⟨hcs, _⟩ | ⟨a, len, cap, m, n, V, D, Pl, hcs, _, hlc, _, hm, rfl, hx⟩
  · simp only [List.cons.injEq, and_true] at hcs
    exact ⟨none, 0, 0, [], hcs, ⟨rfl, fun i hi => absurd hi (Nat.not_lt_zero _)⟩, by omega, by simp⟩
  · simp only [List.cons.injEq, and_true] at hcs
    simp only [if_true] at hm
    subst hm
    have key : ∀ i, i < len → ∃ s : ByteArray, w.cell? (a.add i) = some (.string s) ∧ D i = .lit (.string s.data.toList) := by
      intro i hi
      obtain ⟨h1, h2⟩ := hx i (by omega)
      obtain ⟨s, hs1, hs2, _⟩ := DataW.trod_string Tryd.underlying9 h2
      simp only [List.cons.injEq, and_true] at hs1
      rw [hs1] at h1
      simp only [Prod.mk.injEq] at hs2
      exact ⟨s, h1, hs2.1⟩
    obtain ⟨S, hS⟩ := choose_lt (α := ByteArray) key
    refine ⟨some a, len, m, (List.range len).map S, hcs, ⟨by simp, fun i hi => ?_⟩, ?_, ?_⟩
    · obtain ⟨b, o, sp⟩ := a
      have h0 := (hS 0 (by omega)).1
      have hsp : sp = none := World.cell?_spot (a := ⟨b, o, sp⟩) h0
      subst hsp
      refine ⟨b, o, rfl, ?_⟩
      have := (hS i hi).1
      rw [addr_add] at this
      rw [this]; simp [List.getD, hi]
    · have := hl.len Tryd.underlying24
      rw [bytesOf_string] at this
      simp [reachBytes] at this
      omega
    · intro s hs
      obtain ⟨i, hi, rfl⟩ := List.mem_map.1 hs
      have hi' : i < len := by simpa using hi
      have := hl.elem Tryd.underlying24 (d := D i) (List.mem_map.2 ⟨i, hi, rfl⟩)
      rw [(hS i hi').2] at this
      have h2 := this (S i).data.toList.length (by simp [DataW.weights])
      have e : (S i).data.toList.length = (S i).size := rfl
      rw [e] at h2
      simp [reachBytes] at h2
      omega

theorem open_intl {fuel : Nat} {v : Value} {x : DataW H × List MemPlace} (h : DataW.trod enc Tryd.prog w 0 (fun _ => true) true fuel 32 [v] = some x) (hl : Light 32 x.1) :
    ∃ a c xs, v = .slice a xs.length c ∧ IntsAt w a xs.length xs ∧ xs.length ≤ 17592186044416 ∧ ∀ k ∈ xs, InR k := by
  rcases open_slice1 Tryd.underlying32 (by kernel_rfl) h with ⟨hcs, _⟩ | ⟨a, len, cap, m, n, V, D, Pl, hcs, _, hlc, _, hm, rfl, hx⟩
  · simp only [List.cons.injEq, and_true] at hcs
    exact ⟨none, 0, [], hcs, ⟨rfl, fun i hi => absurd hi (Nat.not_lt_zero _)⟩, by simp, by simp⟩
  · simp only [List.cons.injEq, and_true] at hcs
    simp only [if_true] at hm
    subst hm
    have key : ∀ i, i < len → ∃ k : Int, w.cell? (a.add i) = some (.int .i64 k) ∧ InR k := by
      intro i hi
      obtain ⟨h1, h2⟩ := hx i (by omega)
      obtain ⟨s, hs1, _, hwf⟩ := DataW.trod_int Tryd.underlying3 h2
      simp only [List.cons.injEq, and_true] at hs1
      rw [hs1] at h1
      exact ⟨s, h1, inR_of_wf hwf⟩
    obtain ⟨S, hS⟩ := choose_lt (α := Int) key
    have hlen : ((List.range len).map S).length = len := by simp
    refine ⟨some a, m, (List.range len).map S, by rw [hlen]; exact hcs, ⟨rfl, fun i hi => ?_⟩, ?_, ?_⟩
    · rw [hlen] at hi
      obtain ⟨b, o, sp⟩ := a
      have h0 := (hS 0 (by omega)).1
      have hsp : sp = none := World.cell?_spot (a := ⟨b, o, sp⟩) h0
      subst hsp
      refine ⟨b, o, rfl, ?_⟩
      have := (hS i hi).1
      rw [addr_add] at this
      rw [this]; simp [List.getD, hi]
    · have := hl.len Tryd.underlying32
      rw [bytesOf_int] at this
      simp [reachBytes] at this
      rw [hlen]; omega
    · intro k hk
      obtain ⟨i, hi, rfl⟩ := List.mem_map.1 hk
      exact (hS i (by simpa using hi)).2

end

set_option maxRecDepth 100000 in
set_option maxHeartbeats 2000000 in
theorem round_lifted (os : Os) (started : os.Started) (H : Type) (enc : TypeId × Value → H) :
    ReturnsInHanded {} Tryd.checked os 4 .any (fun w args => (Rows.roundSpec.pre enc Tryd.prog Tryd.f4 [] false w args ∧ laidMetH Tryd.prog laidE w) ∧ sizedMet enc Tryd.prog Tryd.f4 (OpenSpec.ofChange Rows.roundSpec) false w args)
      (Rows.roundSpec.post enc Tryd.prog Tryd.f4 false true false false) := by
  refine returnsInHanded_of_change_and (C := Tryd.checked) (X := fun w _ => laidMetH Tryd.prog laidE w) (fun _ _ _ hh h => h.of_heap hh) ownKnobNone started (by kernel_rfl) Tryd.func4
    (ChangeSpec.witness_shaped (enc := enc) (C := Tryd.checked) (os := os) (X := fun w _ => laidMetH Tryd.prog laidE w) false (World.doorLaid Tryd.prog 400 os) #[.slice none 0 0, .slice none 0 0, .int .i64 0, .int .i64 0] 8 rfl (World.shaped_of_RefB (by kernel_rfl) (by kernel_rfl)) (by kernel_rfl) (by kernel_rfl) (by kernel_rfl) (door_met os _)) ?_
  intro W base args ds gs before hval0 hW _ hsz0 hL _
  have hval : ∀ (j : Nat) t v, Tryd.f4.params[j]? = some t → args[j]? = some v → Value.okWide Tryd.prog W .any base t v := hval0
  have hsz : (DataW.weightsEach Tryd.prog (Tryd.f4.params.toList ++ Rows.roundSpec.plain.varTypes Tryd.prog) (ds ++ gs)).all (· ≤ reachBytes) = true := hsz0
  have hW' := hW
  obtain ⟨p, q, hA0, hV, rfl, hfz, hnd⟩ := hW
  have hA : DataW.TrodAll enc Tryd.prog W 0 (fun _ => true) true Tryd.f4.params.toList args.toList ds p := hA0
  rw [Tryd.params4] at hA hval hsz
  obtain ⟨v0, vs0, d0, ds0, p0, q0, hargs, rfl, rfl, h0, r0⟩ := trodAll_cons hA
  obtain ⟨v1, vs1, d1, ds1, p1, q1, rfl, rfl, rfl, h1, r1⟩ := trodAll_cons r0
  obtain ⟨v2, vs2, d2, ds2, p2, q2, rfl, rfl, rfl, h2, r2⟩ := trodAll_cons r1
  obtain ⟨v3, vs3, d3, ds3, p3, q3, rfl, rfl, rfl, h3, r3⟩ := trodAll_cons r2
  obtain ⟨rfl, rfl, rfl⟩ := trodAll_nil r3
  obtain rfl : args = #[v0, v1, v2, v3] := by cases args; simp_all
  obtain ⟨rfl, rfl⟩ := trodVars_none hV
  have k0 := h0
  have k1 := h1
  have k2 := h2
  have k3 := h3
  have lt0 : ∀ x ∈ p0, x.block < W.heap.size := by obtain ⟨m, hm⟩ := k0; exact DataW.trod_lt m _ _ _ hm
  have lt1 : ∀ x ∈ p1, x.block < W.heap.size := by obtain ⟨m, hm⟩ := k1; exact DataW.trod_lt m _ _ _ hm
  have lt2 : ∀ x ∈ p2, x.block < W.heap.size := by obtain ⟨m, hm⟩ := k2; exact DataW.trod_lt m _ _ _ hm
  have lt3 : ∀ x ∈ p3, x.block < W.heap.size := by obtain ⟨m, hm⟩ := k3; exact DataW.trod_lt m _ _ _ hm
  have hl0 : Light 32 d0 := by
    intro n hn
    have := List.all_eq_true.1 hsz n (DataW.weights_mem_each (j := 0) (t := 32) (d := d0) rfl rfl n hn)
    simpa using this
  have hl1 : Light 24 d1 := by
    intro n hn
    have := List.all_eq_true.1 hsz n (DataW.weights_mem_each (j := 1) (t := 24) (d := d1) rfl rfl n hn)
    simpa using this
  obtain ⟨_, _, _, rfl⟩ := okWide_slice Tryd.underlying32 (hval 0 32 v0 rfl rfl)
  obtain ⟨_, _, _, rfl⟩ := okWide_slice Tryd.underlying24 (hval 1 24 v1 rfl rfl)
  obtain ⟨ka, rfl, _, _, wa⟩ := open_int Tryd.underlying3 (hval 2 3 v2 rfl rfl) h2
  obtain ⟨kb, rfl, _, _, wb⟩ := open_int Tryd.underlying3 (hval 3 3 v3 rfl rfl) h3
  obtain ⟨f0, g0⟩ := h0
  obtain ⟨f1, g1⟩ := h1
  obtain ⟨ra, cr, raw, e0, hr, hnr, hrw⟩ := open_intl g0 hl0
  obtain ⟨ta, nt, ct, texts, e1, ht, hnt, hts⟩ := open_strs g1 hl1
  cases e0; cases e1
  obtain ⟨et, ev, hE⟩ := of_laid hL
  clear hA0 hval0 hsz0
  refine (round_any _ _ _ _ _ _ raw texts ka kb et ev W hr hrw ht hnr hnt hts (inR_of_wf wa) (inR_of_wf wb) hE).mono fun e W' ⟨he, bel⟩ => ?_
  subst he
  exact ⟨_, rfl, _, _, _, [], _, [], hW', trodAll_mk1 (shut_bool Tryd.underlying4 _), (trodAll_cons_mk (Below.trod laidOut (by kernel_rfl) (of_decide_eq_true (by kernel_rfl)) k0 bel lt0) (trodAll_cons_mk (Below.trod laidOut (by kernel_rfl) (of_decide_eq_true (by kernel_rfl)) k1 bel lt1) (trodAll_cons_mk (Below.trod laidOut (by kernel_rfl) (of_decide_eq_true (by kernel_rfl)) k2 bel lt2) (trodAll_cons_mk (Below.trod laidOut (by kernel_rfl) (of_decide_eq_true (by kernel_rfl)) k3 bel lt3) trodAll_mk0)))), rfl, Below.frame bel _, fun h => by cases h⟩

theorem round_holds : Rows.RoundSaid :=
  OpenClaim.holds_of_wide 4 Tryd.f4 rfl rfl rfl rfl rfl rfl rfl ⟨rfl, rfl, rfl, rfl, rfl⟩ rfl rfl rfl rfl rfl (by kernel_rfl) Tryd.func4 (by kernel_rfl)
    (of_decide_eq_true (by kernel_rfl)) (by unfold Func.isWrapper; first | (rw [if_pos (by decide +kernel)]; kernel_rfl) | (rw [if_neg (by decide +kernel)]; exact ⟨rfl, rfl⟩))
    (fun os started H enc _ => round_lifted os started H enc)

theorem round_card_holds : Rows.RoundCardSaid :=
  tied_goes .later [.sentinel] true Rows.roundCard.stood.harness Rows.roundCard.stood.looks Rows.roundCard.goes
    round_holds (by kernel_rfl) round_row_tie rfl ⟨rfl, rfl⟩ (by kernel_rfl) rfl
    (fun f fn hf hfn => by
      obtain rfl : f = 4 := Option.some.inj ((show Tryd.prog.funcNamed "phrasebook/phrasebookkeep.Round" = some 4 by kernel_rfl).symm.trans hf) |>.symm
      obtain rfl : fn = Tryd.f4 := (Option.some.inj (Tryd.func4.symm.trans hfn)).symm
      exact ⟨by kernel_rfl, fun j t ht => by
        rw [Tryd.params4] at ht
        have hm : t ∈ [32, 24, 3, 3] := by simpa using Array.mem_of_getElem? ht
        have hall : ([32, 24, 3, 3].all fun u => !Tryd.prog.wantsStandIn u) = true := by kernel_rfl
        exact (show Tryd.prog.wantsStandIn t = false by simpa using List.all_eq_true.1 hall t hm)⟩)
    (by kernel_rfl)

#print axioms round_card_holds

end Go.Proofs.YtkhenmpdlnhgjaaDoor
