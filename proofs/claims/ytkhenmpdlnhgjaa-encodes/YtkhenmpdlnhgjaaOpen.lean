import Derived.Test.YtkhenmpdlnhgjaaLaw
import Derived.ProofKit
import Derived.OpenShut
import Derived.ShutString
import Derived.ChangeOld
import Derived.Below
import Derived.SizedLaws
import Derived.Deep.Slices
import Derived.Deep.Strs
import Derived.Lib.SmallJoins
namespace Go.Proofs.Ytkhenmpdlnhgjaa
open Go.ChangeShapes Go.WideShapes Go.ChangeAt Go.RowKit Go.Deep Go.Joins

/-- No part of a datum is wider than the form's reach. -/
def Light {H : Type} (t : TypeId) (d : DataW H) : Prop := ∀ n ∈ d.weights Try.prog t, n ≤ reachBytes

theorem weights_mem_all {H : Type} {P : Program} {e : TypeId} {d : DataW H} {n : Nat} (hn : n ∈ d.weights P e) : ∀ {ds : List (DataW H)}, d ∈ ds → n ∈ DataW.weightsAll P e ds
  | x :: ds, h => by
    unfold DataW.weightsAll
    rw [List.mem_append]
    rcases List.mem_cons.1 h with rfl | h
    · exact .inl hn
    · exact .inr (weights_mem_all hn h)
theorem Light.len {H : Type} {t e : TypeId} {elems spare : List (DataW H)} (h : Light t (.slice elems spare)) (ht : Try.prog.underlying t = some (.slice e)) : elems.length * Try.prog.bytesOf e ≤ reachBytes := by
  have := h ((elems.length + spare.length) * Try.prog.bytesOf e) (by unfold DataW.weights; rw [ht]; simp)
  rw [Nat.add_mul] at this
  omega
theorem Light.elem {H : Type} {t e : TypeId} {elems spare : List (DataW H)} (h : Light t (.slice elems spare)) (ht : Try.prog.underlying t = some (.slice e)) {d : DataW H} (hd : d ∈ elems) : Light e d := by
  intro n hn
  refine h n ?_
  unfold DataW.weights
  rw [ht]
  simp only [List.mem_cons, List.mem_append]
  exact .inr (.inl (weights_mem_all hn hd))
theorem Light.part {H : Type} {t u : TypeId} {fs : Array Field} {parts : List (DataW H)} (h : Light t (.agg parts)) (ht : Try.prog.underlying t = some (.struct fs)) {j : Nat} {d : DataW H} (hj : (fs.toList.map (·.type))[j]? = some u) (hd : parts[j]? = some d) : Light u d := by
  intro n hn
  refine h n ?_
  unfold DataW.weights
  rw [ht]
  exact DataW.weights_mem_each hj hd n hn

theorem addr_add {b o : Nat} (i : Nat) : (⟨b, o, none⟩ : Addr).add i = ⟨b, o + i, none⟩ := by
  unfold Addr.add; split
  · next e => subst e; rfl
  · rfl
theorem cells3 {w : World} {a : Addr} {cs : List Value} (h : w.cells? 0 a 3 = some cs) : ∃ c0 c1 c2, cs = [c0, c1, c2] ∧ w.cell? a = some c0 ∧ w.cell? (a.add 1) = some c1 ∧ w.cell? (a.add 2) = some c2 := by
  unfold World.cells? at h
  rw [if_pos (Nat.zero_le _)] at h
  have e : List.range 3 = [0, 1, 2] := rfl
  rw [e] at h
  simp only [List.mapM_cons, List.mapM_nil] at h
  cases h0 : w.cell? (a.add 0) with
  | none => simp [h0] at h
  | some c0 =>
    cases h1 : w.cell? (a.add 1) with
    | none => simp [h0, h1] at h
    | some c1 =>
      cases h2 : w.cell? (a.add 2) with
      | none => simp [h0, h1, h2] at h
      | some c2 =>
        simp [h0, h1, h2] at h
        have e0 : a.add 0 = a := rfl
        rw [e0] at h0
        exact ⟨c0, c1, c2, h.symm, h0, rfl, rfl⟩

section
variable {H : Type} {enc : TypeId × Value → H} {w : World}

theorem bytesOf_int : Try.prog.bytesOf 3 = 8 := by kernel_rfl
theorem bytesOf_string : Try.prog.bytesOf 9 = 16 := by kernel_rfl
theorem bytesOf_ins : Try.prog.bytesOf 46 = 24 := by kernel_rfl
theorem bytesOf_phrase : Try.prog.bytesOf 37 = 64 := by kernel_rfl
theorem cellsOf_ins : Try.prog.cellsOf 46 = 3 := by kernel_rfl
theorem cellsOf_phrase : Try.prog.cellsOf 37 = 3 := by kernel_rfl

theorem open_strs {fuel : Nat} {v : Value} {x : DataW H × List MemPlace} (h : DataW.trod enc Try.prog w 0 (fun _ => true) true fuel 22 [v] = some x) (hl : Light 22 x.1) :
    ∃ a n c ss, v = .slice a n c ∧ StrsAt w a n ss ∧ n ≤ 8796093022208 ∧ ∀ s ∈ ss, s.size ≤ 140737488355328 := by
  rcases open_slice1 Try.underlying22 (by kernel_rfl) h with ⟨hcs, _⟩ | ⟨a, len, cap, m, n, V, D, Pl, hcs, _, hlc, _, hm, rfl, hx⟩
  · simp only [List.cons.injEq, and_true] at hcs
    exact ⟨none, 0, 0, [], hcs, ⟨rfl, fun i hi => absurd hi (Nat.not_lt_zero _)⟩, by omega, by simp⟩
  · simp only [List.cons.injEq, and_true] at hcs
    simp only [if_true] at hm
    subst hm
    have key : ∀ i, i < len → ∃ s : ByteArray, w.cell? (a.add i) = some (.string s) ∧ D i = .lit (.string s.data.toList) := by
      intro i hi
      obtain ⟨h1, h2⟩ := hx i (by omega)
      obtain ⟨s, hs1, hs2, _⟩ := DataW.trod_string Try.underlying9 h2
      simp only [List.cons.injEq, and_true] at hs1
      rw [hs1] at h1
      simp only [Prod.mk.injEq] at hs2
      exact ⟨s, h1, hs2.1⟩
    obtain ⟨S, hS⟩ := choose_lt (α := ByteArray) key
    refine ⟨some a, len, m, (List.range len).map S, hcs, ⟨by simp, fun i hi => ?_⟩, ?_, ?_⟩
    · obtain ⟨b, o, sp⟩ := a
      have h0 := (hS 0 (by omega)).1
      have hsp : sp = none := World.cell?_spot (a := ⟨b, o, sp⟩) h0
      subst hsp
      refine ⟨b, o, rfl, ?_⟩
      have := (hS i hi).1
      rw [addr_add] at this
      rw [this]; simp [List.getD, hi]
    · have := hl.len Try.underlying22
      rw [bytesOf_string] at this
      simp [reachBytes] at this
      omega
    · intro s hs
      obtain ⟨i, hi, rfl⟩ := List.mem_map.1 hs
      have hi' : i < len := by simpa using hi
      have := hl.elem Try.underlying22 (d := D i) (List.mem_map.2 ⟨i, hi, rfl⟩)
      rw [(hS i hi').2] at this
      have h2 := this (S i).data.toList.length (by simp [DataW.weights])
      have e : (S i).data.toList.length = (S i).size := rfl
      rw [e] at h2
      simp [reachBytes] at h2
      omega

theorem open_intl {fuel : Nat} {v : Value} {x : DataW H × List MemPlace} (h : DataW.trod enc Try.prog w 0 (fun _ => true) true fuel 34 [v] = some x) (hl : Light 34 x.1) :
    ∃ a c xs, v = .slice a xs.length c ∧ IntsAt w a xs.length xs ∧ xs.length ≤ 17592186044416 := by
  rcases open_slice1 Try.underlying34 (by kernel_rfl) h with ⟨hcs, _⟩ | ⟨a, len, cap, m, n, V, D, Pl, hcs, _, hlc, _, hm, rfl, hx⟩
  · simp only [List.cons.injEq, and_true] at hcs
    exact ⟨none, 0, [], hcs, ⟨rfl, fun i hi => absurd hi (Nat.not_lt_zero _)⟩, by simp⟩
  · simp only [List.cons.injEq, and_true] at hcs
    simp only [if_true] at hm
    subst hm
    have key : ∀ i, i < len → ∃ k : Int, w.cell? (a.add i) = some (.int .i64 k) := by
      intro i hi
      obtain ⟨h1, h2⟩ := hx i (by omega)
      obtain ⟨s, hs1, _, _⟩ := DataW.trod_int Try.underlying3 h2
      simp only [List.cons.injEq, and_true] at hs1
      rw [hs1] at h1
      exact ⟨s, h1⟩
    obtain ⟨S, hS⟩ := choose_lt (α := Int) key
    have hlen : ((List.range len).map S).length = len := by simp
    refine ⟨some a, m, (List.range len).map S, by rw [hlen]; exact hcs, ⟨rfl, fun i hi => ?_⟩, ?_⟩
    · rw [hlen] at hi
      obtain ⟨b, o, sp⟩ := a
      have h0 := hS 0 (by omega)
      have hsp : sp = none := World.cell?_spot (a := ⟨b, o, sp⟩) h0
      subst hsp
      refine ⟨b, o, rfl, ?_⟩
      have := hS i hi
      rw [addr_add] at this
      rw [this]; simp [List.getD, hi]
    · have := hl.len Try.underlying34
      rw [bytesOf_int] at this
      simp [reachBytes] at this
      rw [hlen]; omega

theorem open_code {fuel : Nat} {v : Value} {x : DataW H × List MemPlace} (h : DataW.trod enc Try.prog w 0 (fun _ => true) true fuel 35 [v] = some x) (hl : Light 35 x.1) :
    ∃ a c xs, v = .slice a xs.length c ∧ CodeAt w a xs.length xs ∧ xs.length ≤ 5864062014805 := by
  rcases open_slice Try.underlying35 h with ⟨hcs, _⟩ | ⟨a, len, cap, m, n, D, Pl, hcs, _, hlc, _, hm, rfl, hx⟩
  · simp only [List.cons.injEq, and_true] at hcs
    exact ⟨none, 0, [], hcs, ⟨rfl, fun i hi => absurd hi (Nat.not_lt_zero _)⟩, by simp⟩
  · simp only [List.cons.injEq, and_true] at hcs
    simp only [if_true] at hm
    subst hm
    rw [cellsOf_ins] at hx
    have key : ∀ i, i < len → ∃ k : Ins, w.cell? (a.add (i * 3)) = some (.int .i64 k.1) ∧ w.cell? (a.add (i * 3 + 1)) = some (.int .i64 k.2.1) ∧ w.cell? (a.add (i * 3 + 2)) = some (.int .i64 k.2.2) := by
      intro i hi
      obtain ⟨cs', h1, h2⟩ := hx i (by omega)
      obtain ⟨c0, c1, c2, rfl, g0, g1, g2⟩ := cells3 h1
      obtain ⟨y0, y1, y2, n', _, _, t0, t1, t2⟩ := trod_struct3 Try.underlying46 h2
      have e : Try.prog.cellsOf 3 = 1 := by kernel_rfl
      simp only [e, List.drop_zero, List.drop_succ_cons, List.take_succ_cons, List.take_zero] at t0 t1 t2
      obtain ⟨s0, q0, _, _⟩ := DataW.trod_int Try.underlying3 t0
      obtain ⟨s1, q1, _, _⟩ := DataW.trod_int Try.underlying3 t1
      obtain ⟨s2, q2, _, _⟩ := DataW.trod_int Try.underlying3 t2
      simp only [List.cons.injEq, and_true] at q0 q1 q2
      rw [add_add] at g1 g2
      exact ⟨(s0, s1, s2), by rw [g0, q0], by rw [g1, q1], by rw [g2, q2]⟩
    obtain ⟨S, hS⟩ := choose_lt (α := Ins) key
    have hlen : ((List.range len).map S).length = len := by simp
    refine ⟨some a, m, (List.range len).map S, by rw [hlen]; exact hcs, ⟨rfl, fun i hi => ?_⟩, ?_⟩
    · rw [hlen] at hi
      obtain ⟨b, o, sp⟩ := a
      have h0 := (hS 0 (by omega)).1
      have hsp : sp = none := World.cell?_spot (a := ⟨b, o, sp⟩) h0
      subst hsp
      refine ⟨b, o, rfl, ?_⟩
      obtain ⟨g0, g1, g2⟩ := hS i hi
      rw [addr_add] at g0 g1 g2
      have hg : ((List.range len).map S).getD i (0, 0, 0) = S i := by simp [List.getD, hi]
      rw [hg]
      exact ⟨g0, g1, g2⟩
    · have := hl.len Try.underlying35
      rw [bytesOf_ins] at this
      simp [reachBytes] at this
      rw [hlen]; omega

theorem open_phrases {fuel : Nat} {v : Value} {x : DataW H × List MemPlace} (h : DataW.trod enc Try.prog w 0 (fun _ => true) true fuel 23 [v] = some x) (hl : Light 23 x.1) :
    ∃ a n c ps, v = .slice a n c ∧ PhrasesAt w a n ps ∧ n ≤ 2199023255552 := by
  rcases open_slice Try.underlying23 h with ⟨hcs, _⟩ | ⟨a, len, cap, m, n, D, Pl, hcs, _, hlc, _, hm, rfl, hx⟩
  · simp only [List.cons.injEq, and_true] at hcs
    exact ⟨none, 0, 0, [], hcs, ⟨rfl, fun i hi => absurd hi (Nat.not_lt_zero _)⟩, by simp⟩
  · simp only [List.cons.injEq, and_true] at hcs
    simp only [if_true] at hm
    subst hm
    rw [cellsOf_phrase] at hx
    have key : ∀ i, i < len → ∃ f : Phr, ∃ aa ca ac cc, w.cell? (a.add (i * 3)) = some (.string f.name) ∧ w.cell? (a.add (i * 3 + 1)) = some (.slice aa f.args.length ca) ∧ w.cell? (a.add (i * 3 + 2)) = some (.slice ac f.code.length cc) ∧
        IntsAt w aa f.args.length f.args ∧ CodeAt w ac f.code.length f.code ∧ f.args.length ≤ 17592186044416 ∧ f.code.length ≤ 5864062014805 ∧ f.name.size ≤ 140737488355328 := by
      intro i hi
      obtain ⟨cs', h1, h2⟩ := hx i (by omega)
      have hlD := hl.elem Try.underlying23 (d := D i) (List.mem_map.2 ⟨i, by simpa using hi, rfl⟩)
      obtain ⟨c0, c1, c2, rfl, g0, g1, g2⟩ := cells3 h1
      obtain ⟨y0, y1, y2, n', hD, _, t0, t1, t2⟩ := trod_struct3 Try.underlying37 h2
      simp only [Prod.mk.injEq] at hD
      rw [hD.1] at hlD
      have l0 := hlD.part Try.underlying37 (j := 0) rfl rfl
      have l1 := hlD.part Try.underlying37 (j := 1) rfl rfl
      have l2 := hlD.part Try.underlying37 (j := 2) rfl rfl
      have e0 : Try.prog.cellsOf 9 = 1 := by kernel_rfl
      have e1 : Try.prog.cellsOf 34 = 1 := by kernel_rfl
      have e2 : Try.prog.cellsOf 35 = 1 := by kernel_rfl
      simp only [e0, e1, e2, List.drop_zero, List.drop_succ_cons, List.take_succ_cons, List.take_zero] at t0 t1 t2
      obtain ⟨nm, q0, hy0, _⟩ := DataW.trod_string Try.underlying9 t0
      simp only [List.cons.injEq, and_true] at q0
      obtain ⟨aa, ca, args, q1, ha, hla⟩ := open_intl t1 l1
      obtain ⟨ac, cc, code, q2, hc, hlc'⟩ := open_code t2 l2
      rw [add_add] at g1 g2
      rw [hy0] at l0
      have hn := l0 nm.data.toList.length (by simp [DataW.weights])
      have e : nm.data.toList.length = nm.size := rfl
      rw [e] at hn
      simp [reachBytes] at hn
      exact ⟨⟨nm, args, code⟩, aa, ca, ac, cc, by rw [g0, q0], by rw [g1, q1], by rw [g2, q2], ha, hc, hla, hlc', by simp only; omega⟩
    have hinh : Inhabited Phr := ⟨noPhr⟩
    obtain ⟨S, hS⟩ := choose_lt (α := Phr) key
    refine ⟨some a, len, m, (List.range len).map S, hcs, ⟨by simp, fun i hi => ?_⟩, ?_⟩
    · obtain ⟨b, o, sp⟩ := a
      obtain ⟨_, _, _, _, h0, _⟩ := hS 0 (by omega)
      have hsp : sp = none := World.cell?_spot (a := ⟨b, o, sp⟩) h0
      subst hsp
      refine ⟨b, o, rfl, ?_⟩
      obtain ⟨aa, ca, ac, cc, g0, g1, g2, r⟩ := hS i hi
      rw [addr_add] at g0 g1 g2
      have hg : ((List.range len).map S).getD i noPhr = S i := by simp [List.getD, hi]
      rw [hg]
      exact ⟨aa, ca, ac, cc, g0, g1, g2, r⟩
    · have := hl.len Try.underlying23
      rw [bytesOf_phrase] at this
      simp [reachBytes] at this
      omega

end

end Go.Proofs.Ytkhenmpdlnhgjaa
