import Derived.Test.YtkhenmpdlnhgjaaDoorUn
namespace Go.Proofs.YtkhenmpdlnhgjaaDoor
open Go.RowKit

theorem extract_mid (s : ByteArray) (n m : Nat) : s.extract n (n + m) = ⟨((s.data.toList.drop n).take m).toArray⟩ := by
  apply ByteArray.ext
  apply Array.toList_inj.1
  simp [ByteArray.data_extract]

theorem size_mk (l : List UInt8) : (⟨l.toArray⟩ : ByteArray).size = l.length := by simp [ByteArray.size]

set_option maxHeartbeats 400000 in
theorem x_bad (g most n : Nat) (s : ByteArray) (w : World) (h : SPat w g s n true) :
    Calls Tryd.prog 27 #[.pointer (some ⟨g, 0, none⟩), .int .i64 most] w fun e w' => e = .returned (.string ByteArray.empty) ∧ SPat w' g s n true ∧ KG g w w' := by
  go_enter Tryd.func27, Tryd.ntmps27
  go_wp2_with fail
  refine (u_bad g most n s w h).mono ?_
  rintro e w1 ⟨rfl, h1, hk1⟩
  have hc2 : w1.cell? ⟨g, 2, none⟩ = some (.bool true) := h1.cell 2
  go_wp2_with fail
  go_quiet (fail)
  have hx := Ext.drewN w1 nq
  generalize w1.drewN nq = w2 at hx ⊢
  have h2 : SPat w2 g s n true := OwnRow.ext h1 hx
  have hd2 : w2.cell? ⟨g, 2, none⟩ = some (.bool true) := h2.cell 2
  have hf := h2.frozen 2
  clear hc2
  go_wp2
  go_ret
  exact ⟨rfl, h2.set 2 _, (hk1.trans (KG.of_ext hx)).set 2 _⟩

set_option maxHeartbeats 1000000 in
theorem x_good (g most n : Nat) (s : ByteArray) (w : World) (h : SPat w g s n false) (hn : n ≤ s.size + 3) (hl : s.size ≤ 140737488355328) (hm : most ≤ 2147483647) :
    Calls Tryd.prog 27 #[.pointer (some ⟨g, 0, none⟩), .int .i64 most] w fun e w' => ∃ t : ByteArray, e = .returned (.string t) ∧ t.size ≤ most ∧ KG g w w' ∧
      Outc (lText most (s.data.toList.drop n)) (fun x => x.1 = t ∧ ∃ n', n' ≤ s.size ∧ SPat w' g s n' false ∧ s.data.toList.drop n' = x.2) (∃ n', n' ≤ s.size + 3 ∧ SPat w' g s n' true) := by
  go_enter Tryd.func27, Tryd.ntmps27
  go_wp2_with fail
  refine (u_good g most n s w h hn hl hm).mono ?_
  rintro e w1 ⟨m, rfl, hmm, hk1, hO⟩
  cases hN : lNum most (s.data.toList.drop n) with
  | none =>
    obtain ⟨p, hp, h1⟩ := hO.no hN
    have HN : Hid (lText most (s.data.toList.drop n) = none) := by show _ = _; unfold lText; rw [hN]; rfl
    have hc2 : w1.cell? ⟨g, 2, none⟩ = some (.bool true) := h1.cell 2
    clear hO hN
    go_wp2_with fail
    go_quiet (fail)
    have hx := Ext.drewN w1 nq
    generalize w1.drewN nq = w2 at hx ⊢
    have h2 : SPat w2 g s p true := OwnRow.ext h1 hx
    have hd2 : w2.cell? ⟨g, 2, none⟩ = some (.bool true) := h2.cell 2
    have hf := h2.frozen 2
    clear hc2
    go_wp2_with fail
    go_ret
    exact ⟨ByteArray.empty, rfl, Nat.zero_le _, (hk1.trans (KG.of_ext hx)).set 2 _, outc_no HN.out ⟨p, hp, h2.set 2 _⟩⟩
  | some x =>
    obtain ⟨hxm, p, hp, h1, hr⟩ := hO.yes hN
    obtain ⟨m', r⟩ := x
    simp only at hxm hr
    subst hxm
    have HL : Hid (lText most (s.data.toList.drop n) = (pTake m' r).map fun y => (⟨y.1.toArray⟩, y.2)) := by show _ = _; unfold lText; rw [hN]; rfl
    have hrl : r.length = s.size - p := by rw [← hr]; simp
    have HR := hide hr
    have hc2 : w1.cell? ⟨g, 2, none⟩ = some (.bool false) := h1.cell 2
    have hc1 : w1.cell? ⟨g, 1, none⟩ = some (.int .i64 p) := h1.cell 1
    have hc0 : w1.cell? ⟨g, 0, none⟩ = some (.string s) := h1.cell 0
    clear hO hN hr
    by_cases hle : m' ≤ r.length
    · have HN : Hid (lText most (s.data.toList.drop n) = some (⟨(r.take m').toArray⟩, r.drop m')) := by show _ = _; rw [HL.out]; unfold pTake; rw [if_pos hle]; rfl
      have hi : decide ((s.size : Int) - p < m') = false := decide_eq_false (by omega)
      have hple : p + m' ≤ s.size := by omega
      clear HL hle hrl
      go_wp2_with fail
      go_quiet (fail)
      have hx := Ext.drewN w1 nq
      generalize w1.drewN nq = w2 at hx ⊢
      have h2 : SPat w2 g s p false := OwnRow.ext h1 hx
      have hd1 : w2.cell? ⟨g, 1, none⟩ = some (.int .i64 p) := h2.cell 1
      have hf := h2.frozen 1
      clear hc2 hc1 hc0
      go_wp2_with fail
      have h3 := h2.set 1 (.int .i64 ((p : Int) + m'))
      simp only [List.set_cons_zero, List.set_cons_succ] at h3
      have hk := (hk1.trans (KG.of_ext hx)).set 1 (.int .i64 ((p : Int) + m'))
      clear hd1 hf
      generalize w2.setCell ⟨g, 1, none⟩ (.int .i64 ((p : Int) + m')) = w3 at h3 hk ⊢
      have hd0 : w3.cell? ⟨g, 0, none⟩ = some (.string s) := h3.cell 0
      have hd1 : w3.cell? ⟨g, 1, none⟩ = some (.int .i64 ((p : Int) + m')) := h3.cell 1
      go_quiet (fail)
      go_wp2_with fail
      go_ret
      refine ⟨s.extract p (p + m'), rfl, ?_, hk.trans (KG.of_ext (Ext.drewN _ _)), outc_yes HN.out ⟨by rw [extract_mid, HR.out], p + m', hple, OwnRow.ext h3 (Ext.drewN _ _), by rw [← HR.out, List.drop_drop]⟩⟩
      rw [extract_mid, size_mk, List.length_take]; exact Nat.le_trans (Nat.min_le_left _ _) hmm
    · have HN : Hid (lText most (s.data.toList.drop n) = none) := by show _ = _; rw [HL.out]; unfold pTake; rw [if_neg hle]; rfl
      have hi : (s.size : Int) - p < m' := by omega
      clear HL hle hrl
      go_wp2_with fail
      go_quiet (fail)
      have hx := Ext.drewN w1 nq
      generalize w1.drewN nq = w2 at hx ⊢
      have h2 : SPat w2 g s p false := OwnRow.ext h1 hx
      have hd2 : w2.cell? ⟨g, 2, none⟩ = some (.bool false) := h2.cell 2
      have hf := h2.frozen 2
      clear hc2 hc1 hc0
      go_wp2_with fail
      go_ret
      exact ⟨ByteArray.empty, rfl, Nat.zero_le _, (hk1.trans (KG.of_ext hx)).set 2 _, outc_no HN.out ⟨p, by omega, h2.set 2 _⟩⟩

/-! ### The reader's state: the bytes that are left, or none where it is bad -/
def SP (w : World) (g : Nat) (s : ByteArray) (st : Option (List UInt8)) : Prop := ∃ n, n ≤ s.size + 3 ∧ SPat w g s n st.isNone ∧ ∀ r, st = some r → s.data.toList.drop n = r
/-- A reading took the state on, and it read x if it was none bad. -/
def Rdr {α : Type} (item : List UInt8 → Option (α × List UInt8)) (st st' : Option (List UInt8)) (x : α) : Prop := st' = (st.bind item).map (·.2) ∧ ∀ y, st.bind item = some y → y.1 = x
theorem Rdr.many0 {α : Type} {item : List UInt8 → Option (α × List UInt8)} (st : Option (List UInt8)) : Rdr (pMany item 0) st st [] := by
  cases st with
  | none => exact ⟨rfl, fun y hy => by simp at hy⟩
  | some r => exact ⟨rfl, fun y hy => by simp only [Option.bind_some, pMany, Option.some.injEq] at hy; rw [← hy]⟩
theorem Rdr.manyS {α : Type} {item : List UInt8 → Option (α × List UInt8)} {k : Nat} {st st' st'' : Option (List UInt8)} {xs : List α} {x : α} (h : Rdr (pMany item k) st st' xs) (h' : Rdr item st' st'' x) : Rdr (pMany item (k + 1)) st st'' (xs ++ [x]) := by
  obtain ⟨rfl, h2⟩ := h
  obtain ⟨rfl, h4⟩ := h'
  cases st with
  | none => exact ⟨rfl, fun y hy => by simp at hy⟩
  | some r =>
    simp only [Option.bind_some] at h2 h4
    cases hp : pMany item k r with
    | none =>
      have e : pMany item (k + 1) r = none := by unfold pMany; rw [hp]; rfl
      simp only [Rdr, Option.bind_some, hp, e]
      exact ⟨rfl, fun y hy => by simp at hy⟩
    | some y =>
      obtain ⟨ys, r'⟩ := y
      have h5 := h2 _ hp
      rw [hp] at h4
      simp only [Option.map_some, Option.bind_some] at h4 h5
      subst h5
      cases hi : item r' with
      | none =>
        have e := pMany_stop hp hi
        simp only [Rdr, Option.bind_some, hp, hi, e, Option.map_some]
        exact ⟨rfl, fun y hy => by simp at hy⟩
      | some z =>
        have e := pMany_succ hp hi
        have h6 := h4 _ hi
        simp only [Rdr, Option.bind_some, hp, hi, e, Option.map_some]
        exact ⟨trivial, fun y hy => by simp only [Option.some.injEq] at hy; rw [← hy, h6]⟩
theorem Rdr.manyStop {α : Type} {item : List UInt8 → Option (α × List UInt8)} {k n : Nat} {st : Option (List UInt8)} {xs : List α} (h : Rdr (pMany item k) st none xs) (hk : k ≤ n) (ys : List α) : Rdr (pMany item n) st none ys := by
  obtain ⟨h1, _⟩ := h
  cases st with
  | none => exact ⟨rfl, fun y hy => by simp at hy⟩
  | some r =>
    simp only [Option.bind_some] at h1
    have e : pMany item k r = none := by
      cases hp : pMany item k r with
      | none => rfl
      | some y => rw [hp] at h1; simp at h1
    have e2 := pMany_none e n hk
    simp only [Rdr, Option.bind_some, e2]
    exact ⟨rfl, fun y hy => by simp at hy⟩
/-- One reading behind another, which it may hang on. -/
theorem Rdr.seq {α β γ : Type} {i1 : List UInt8 → Option (α × List UInt8)} {i2 : α → List UInt8 → Option (β × List UInt8)} {f : α → β → γ} {st st' st'' : Option (List UInt8)} {a : α} {b : β} (h : Rdr i1 st st' a) (h' : Rdr (i2 a) st' st'' b) :
    Rdr (fun bs => (i1 bs).bind fun x => (i2 x.1 x.2).map fun y => (f x.1 y.1, y.2)) st st'' (f a b) := by
  obtain ⟨rfl, h2⟩ := h
  obtain ⟨rfl, h4⟩ := h'
  cases st with
  | none => exact ⟨rfl, fun y hy => by simp at hy⟩
  | some r =>
    simp only [Option.bind_some] at h2 h4
    cases hp : i1 r with
    | none =>
      simp only [Rdr, Option.bind_some, hp]
      exact ⟨rfl, fun y hy => by simp at hy⟩
    | some y =>
      obtain ⟨ys, r'⟩ := y
      have h5 := h2 _ hp
      rw [hp] at h4
      simp only [Option.map_some, Option.bind_some] at h4 h5
      subst h5
      cases hi : i2 ys r' with
      | none =>
        simp only [Rdr, Option.bind_some, hp, hi, Option.map_some]
        exact ⟨rfl, fun y hy => by simp at hy⟩
      | some z =>
        have h6 := h4 _ hi
        simp only [Rdr, Option.bind_some, hp, hi, Option.map_some]
        exact ⟨trivial, fun y hy => by simp only [Option.some.injEq] at hy; rw [← hy, h6]⟩
theorem Rdr.list {α : Type} {most : Nat} {item : List UInt8 → Option (α × List UInt8)} {st st' st'' : Option (List UInt8)} {n : Nat} {xs : List α} (h : Rdr (lNum most) st st' n) (h' : Rdr (pMany item n) st' st'' xs) : Rdr (lList most item) st st'' xs := by
  have := Rdr.seq (i2 := fun n => pMany item n) (f := fun _ b => b) h h'
  have e : (fun bs => (lNum most bs).bind fun x => (pMany item x.1 x.2).map fun y => (y.1, y.2)) = lList most item := by
    funext bs; unfold lList; simp
  rw [e] at this; exact this
theorem Rdr.ins {st s1 s2 s3 : Option (List UInt8)} {a b c : Nat} (h1 : Rdr pOct st s1 a) (h2 : Rdr (lNum 2147483647) s1 s2 b) (h3 : Rdr (lNum 2147483647) s2 s3 c) : Rdr lIns st s3 ((a : Int), (b : Int), (c : Int)) := by
  have := Rdr.seq (i2 := fun _ => _) (f := fun (a : Nat) (x : Int × Int) => ((a : Int), x.1, x.2)) h1 (Rdr.seq (i2 := fun _ => lNum 2147483647) (f := fun (b c : Nat) => ((b : Int), (c : Int))) h2 h3)
  have e : (fun bs => (pOct bs).bind fun x => (((lNum 2147483647 x.2).bind fun y => (lNum 2147483647 y.2).map fun z => (((y.1 : Int), (z.1 : Int)), z.2))).map fun y => (((x.1 : Int), y.1.1, y.1.2), y.2)) = lIns := by
    funext bs; unfold lIns
    congr 1; funext x
    cases lNum 2147483647 x.2 with
    | none => rfl
    | some y => cases h : lNum 2147483647 y.2 <;> simp [h]
  rw [e] at this; exact this
theorem Rdr.phr {st s1 s2 s3 : Option (List UInt8)} {nm : ByteArray} {args : List Int} {code : List Ins} (h1 : Rdr (lText 12) st s1 nm) (h2 : Rdr (lList 6 pKind) s1 s2 args) (h3 : Rdr (lList 60 lIns) s2 s3 code) : Rdr lPhr st s3 ⟨nm, args, code⟩ := by
  have := Rdr.seq (i2 := fun _ => _) (f := fun (a : ByteArray) (x : List Int × List Ins) => (⟨a, x.1, x.2⟩ : Phr)) h1 (Rdr.seq (i2 := fun _ => lList 60 lIns) (f := fun (b : List Int) (c : List Ins) => (b, c)) h2 h3)
  have e : (fun bs => (lText 12 bs).bind fun x => (((lList 6 pKind x.2).bind fun y => (lList 60 lIns y.2).map fun z => ((y.1, z.1), z.2))).map fun y => ((⟨x.1, y.1.1, y.1.2⟩ : Phr), y.2)) = lPhr := by
    funext bs; unfold lPhr
    congr 1; funext x
    cases lList 6 pKind x.2 with
    | none => rfl
    | some y => cases h : lList 60 lIns y.2 <;> simp [h]
  rw [e] at this; exact this
theorem Rdr.pack {st s1 s2 : Option (List UInt8)} {ss : List ByteArray} {ps : List Phr} (h1 : Rdr (lList 40 (lText 60)) st s1 ss) (h2 : Rdr (lList 12 lPhr) s1 s2 ps) : Rdr lPack st s2 ⟨ss, ps⟩ :=
  Rdr.seq (i2 := fun _ => lList 12 lPhr) (f := fun (a : List ByteArray) (b : List Phr) => (⟨a, b⟩ : Pk)) h1 h2
theorem Rdr.kind {st s1 : Option (List UInt8)} {a : Nat} (h : Rdr pOct st s1 a) : Rdr pKind st s1 (a : Int) := by
  obtain ⟨rfl, h2⟩ := h
  cases st with
  | none => exact ⟨rfl, fun y hy => by simp at hy⟩
  | some r =>
    simp only [Option.bind_some] at h2
    cases hp : pOct r with
    | none => simp only [Rdr, Option.bind_some, pKind, hp]; exact ⟨rfl, fun y hy => by simp at hy⟩
    | some y =>
      have := h2 _ hp
      simp only [Rdr, Option.bind_some, pKind, hp]
      exact ⟨rfl, fun z hz => by simp only [Option.map_some, Option.some.injEq] at hz; rw [← hz, ← this]⟩

/-! ### The three readings by the state -/
theorem SP.of_yes {w : World} {g n : Nat} {s : ByteArray} {r : List UInt8} (h : SPat w g s n false) (hn : n ≤ s.size + 3) (hr : s.data.toList.drop n = r) : SP w g s (some r) := ⟨n, hn, h, fun _ e => by cases e; exact hr⟩
theorem SP.of_no {w : World} {g n : Nat} {s : ByteArray} (h : SPat w g s n true) (hn : n ≤ s.size + 3) : SP w g s none := ⟨n, hn, h, fun _ e => by cases e⟩

theorem one_st (g : Nat) (s : ByteArray) (r : List UInt8) (w : World) (h : SP w g s (some r)) (hl : s.size ≤ 140737488355328) :
    Calls Tryd.prog 28 #[.pointer (some ⟨g, 0, none⟩)] w fun e w' => ∃ (m : Nat) (st' : Option (List UInt8)), e = .returned (.int .i64 m) ∧ m < 256 ∧ KG g w w' ∧ SP w' g s st' ∧ Rdr pOct (some r) st' m := by
  obtain ⟨n, hn, h1, h2⟩ := h
  have hr := h2 r rfl
  by_cases hlt : n < s.size
  · refine (one_yes g n s w h1 hlt hl).mono ?_
    rintro e w1 ⟨rfl, h3, hk⟩
    rw [drop_cons hlt] at hr
    subst hr
    exact ⟨_, some (s.data.toList.drop (n + 1)), rfl, s[n].toNat_lt, hk, SP.of_yes h3 (by omega) rfl, rfl, fun y hy => by simp only [Option.bind_some, pOct, Option.some.injEq] at hy; rw [← hy]⟩
  · refine (one_no g n s false w h1 hlt (by omega)).mono ?_
    rintro e w1 ⟨rfl, h3, hk⟩
    rw [drop_nil hlt] at hr
    subst hr
    exact ⟨0, none, rfl, by omega, hk, SP.of_no h3 hn, rfl, fun y hy => by simp [pOct] at hy⟩
theorem u_st (g most : Nat) (s : ByteArray) (st : Option (List UInt8)) (w : World) (h : SP w g s st) (hl : s.size ≤ 140737488355328) (hm : most ≤ 2147483647) :
    Calls Tryd.prog 26 #[.pointer (some ⟨g, 0, none⟩), .int .i64 most] w fun e w' => ∃ (m : Nat) (st' : Option (List UInt8)), e = .returned (.int .i64 m) ∧ m ≤ most ∧ KG g w w' ∧ SP w' g s st' ∧ Rdr (lNum most) st st' m := by
  obtain ⟨n, hn, h1, h2⟩ := h
  cases st with
  | none =>
    refine (u_bad g most n s w h1).mono ?_
    rintro e w1 ⟨rfl, h3, hk⟩
    exact ⟨0, none, rfl, Nat.zero_le _, hk, SP.of_no h3 hn, rfl, fun y hy => by simp at hy⟩
  | some r =>
    have hr := h2 r rfl
    refine (u_good g most n s w h1 hn hl hm).mono ?_
    rintro e w1 ⟨m, rfl, hmm, hk, hO⟩
    rw [hr] at hO
    cases hN : lNum most r with
    | none =>
      obtain ⟨p, hp, h3⟩ := hO.no hN
      exact ⟨m, none, rfl, hmm, hk, SP.of_no h3 hp, by simp [hN], fun y hy => by simp [hN] at hy⟩
    | some x =>
      obtain ⟨e1, p, hp, h3, e2⟩ := hO.yes hN
      exact ⟨m, some x.2, rfl, hmm, hk, SP.of_yes h3 (by omega) e2, by simp [hN], fun y hy => by simp only [Option.bind_some, hN, Option.some.injEq] at hy; rw [← hy]; exact e1⟩
theorem x_st (g most : Nat) (s : ByteArray) (st : Option (List UInt8)) (w : World) (h : SP w g s st) (hl : s.size ≤ 140737488355328) (hm : most ≤ 2147483647) :
    Calls Tryd.prog 27 #[.pointer (some ⟨g, 0, none⟩), .int .i64 most] w fun e w' => ∃ (t : ByteArray) (st' : Option (List UInt8)), e = .returned (.string t) ∧ t.size ≤ most ∧ KG g w w' ∧ SP w' g s st' ∧ Rdr (lText most) st st' t := by
  obtain ⟨n, hn, h1, h2⟩ := h
  cases st with
  | none =>
    refine (x_bad g most n s w h1).mono ?_
    rintro e w1 ⟨rfl, h3, hk⟩
    exact ⟨ByteArray.empty, none, rfl, Nat.zero_le _, hk, SP.of_no h3 hn, rfl, fun y hy => by simp at hy⟩
  | some r =>
    have hr := h2 r rfl
    refine (x_good g most n s w h1 hn hl hm).mono ?_
    rintro e w1 ⟨m, rfl, hmm, hk, hO⟩
    rw [hr] at hO
    cases hN : lText most r with
    | none =>
      obtain ⟨p, hp, h3⟩ := hO.no hN
      exact ⟨m, none, rfl, hmm, hk, SP.of_no h3 hp, by simp [hN], fun y hy => by simp [hN] at hy⟩
    | some x =>
      obtain ⟨e1, p, hp, h3, e2⟩ := hO.yes hN
      exact ⟨m, some x.2, rfl, hmm, hk, SP.of_yes h3 (by omega) e2, by simp [hN], fun y hy => by simp only [Option.bind_some, hN, Option.some.injEq] at hy; rw [← hy]; exact e1⟩

end Go.Proofs.YtkhenmpdlnhgjaaDoor
