import Derived.Test.YtkhenmpdlnhgjaaDoorSame2
import Derived.Test.YtkhenmpdlnhgjaaDoorMem
namespace Go.Proofs.YtkhenmpdlnhgjaaDoor
open Go.RowKit

def ints (xs : List Int) : List Value := xs.map (.int .i64)

theorem info_int : Tryd.prog.info? 3 = some Tryd.t3 := by kernel_rfl
theorem info_string : Tryd.prog.info? 9 = some Tryd.t9 := by kernel_rfl
theorem info_ins : Tryd.prog.info? 36 = some Tryd.t36 := by kernel_rfl
theorem info_phrase : Tryd.prog.info? 41 = some Tryd.t41 := by kernel_rfl
theorem bytes_int : Tryd.t3.bytes = 8 := by kernel_rfl
theorem bytes_string : Tryd.t9.bytes = 16 := by kernel_rfl
theorem bytes_ins : Tryd.t36.bytes = 24 := by kernel_rfl
theorem bytes_phrase : Tryd.t41.bytes = 64 := by kernel_rfl

def strs (xs : List ByteArray) : List Value := xs.map .string
def codes (xs : List Ins) : List Value := xs.flatMap fun x => [.int .i64 x.1, .int .i64 x.2.1, .int .i64 x.2.2]
theorem length_codes (xs : List Ins) : (codes xs).length = xs.length * 3 := by
  induction xs with
  | nil => rfl
  | cons x xs ih => simp only [codes, List.flatMap_cons, List.length_append] at *; rw [ih]; simp; omega
theorem codes_append (xs ys : List Ins) : codes (xs ++ ys) = codes xs ++ codes ys := by simp [codes]
theorem codes_get (xs : List Ins) (i : Nat) (hi : i < xs.length) : (codes xs)[i * 3]? = some (.int .i64 (xs.getD i (0, 0, 0)).1) ∧ (codes xs)[i * 3 + 1]? = some (.int .i64 (xs.getD i (0, 0, 0)).2.1) ∧
    (codes xs)[i * 3 + 2]? = some (.int .i64 (xs.getD i (0, 0, 0)).2.2) := by
  induction xs generalizing i with
  | nil => simp at hi
  | cons x xs ih =>
    cases i with
    | zero => simp [codes]
    | succ i =>
      have := ih i (by simpa using hi)
      have e : codes (x :: xs) = [.int .i64 x.1, .int .i64 x.2.1, .int .i64 x.2.2] ++ codes xs := rfl
      rw [e, show (i + 1) * 3 = (i * 3) + 3 by omega]
      refine ⟨?_, ?_, ?_⟩
      · rw [List.getElem?_append_right (by simp)]; simpa using this.1
      · rw [List.getElem?_append_right (by simp)]; simpa using this.2.1
      · rw [List.getElem?_append_right (by simp)]; simpa using this.2.2
/-- The other way: every cell of a row of codes. -/
theorem codes_cell {xs : List Ins} {j : Nat} {v : Value} (h : (codes xs)[j]? = some v) : ∃ i, i < xs.length ∧ ((j = i * 3 ∧ v = .int .i64 (xs.getD i (0, 0, 0)).1) ∨ (j = i * 3 + 1 ∧ v = .int .i64 (xs.getD i (0, 0, 0)).2.1) ∨ (j = i * 3 + 2 ∧ v = .int .i64 (xs.getD i (0, 0, 0)).2.2)) := by
  have hj : j < xs.length * 3 := by rw [← length_codes]; exact (List.getElem?_eq_some_iff.1 h).1
  refine ⟨j / 3, by omega, ?_⟩
  obtain ⟨h0, h1, h2⟩ := codes_get xs (j / 3) (by omega)
  have hm : j % 3 = 0 ∨ j % 3 = 1 ∨ j % 3 = 2 := by omega
  rcases hm with e | e | e
  · left; have : j = j / 3 * 3 := by omega
    refine ⟨this, ?_⟩; rw [← this, h] at h0; simpa using h0
  · right; left; have : j = j / 3 * 3 + 1 := by omega
    refine ⟨this, ?_⟩; rw [← this, h] at h1; simpa using h1
  · right; right; have : j = j / 3 * 3 + 2 := by omega
    refine ⟨this, ?_⟩; rw [← this, h] at h2; simpa using h2

/-- A list that has its k first marks. -/
def marked {α : Type} (xs : List α) (m z : α) (k : Nat) : List α := xs ++ List.replicate k m ++ List.replicate (8 - k) z
theorem length_marked {α : Type} (xs : List α) (m z : α) {k : Nat} (hk : k ≤ 8) : (marked xs m z k).length = xs.length + 8 := by simp [marked]; omega
theorem marked_set {α : Type} (xs : List α) (m z : α) {k n : Nat} (hn : xs.length = n) (hk : k < 8) : (marked xs m z k).set (n + k) m = marked xs m z (k + 1) := by
  unfold marked
  have e : 8 - k = (8 - (k + 1)) + 1 := by omega
  rw [e, List.replicate_succ, List.replicate_succ' (n := k)]
  rw [List.set_append_right _ _ (by simp; omega)]
  simp [hn]

theorem codes_set (l : List Ins) (i : Nat) (x : Ins) (hi : i < l.length) : (((codes l).set (i * 3) (.int .i64 x.1)).set (i * 3 + 1) (.int .i64 x.2.1)).set (i * 3 + 2) (.int .i64 x.2.2) = codes (l.set i x) := by
  apply List.ext_getElem?
  intro j
  have hlen : (codes l).length = l.length * 3 := length_codes l
  by_cases hj : j < l.length * 3
  · obtain ⟨h0, h1, h2⟩ := codes_get (l.set i x) (j / 3) (by simp; omega)
    obtain ⟨g0, g1, g2⟩ := codes_get l (j / 3) (by omega)
    have hm : j = j / 3 * 3 ∨ j = j / 3 * 3 + 1 ∨ j = j / 3 * 3 + 2 := by omega
    generalize hq : j / 3 = q at *
    by_cases hqi : q = i
    · subst hqi
      have hg : (l.set q x).getD q (0, 0, 0) = x := by simp [List.getD, hi]
      rw [hg] at h0 h1 h2
      rcases hm with rfl | rfl | rfl
      · rw [h0, List.getElem?_set_ne (by omega), List.getElem?_set_ne (by omega), List.getElem?_set_self (by omega)]
      · rw [h1, List.getElem?_set_ne (by omega), List.getElem?_set_self (by simp; omega)]
      · rw [h2, List.getElem?_set_self (by simp; omega)]
    · have hg : (l.set i x).getD q (0, 0, 0) = l.getD q (0, 0, 0) := by simp [List.getD, List.getElem?_set_ne (show i ≠ q from fun e => hqi e.symm)]
      rw [hg] at h0 h1 h2
      rw [List.getElem?_set_ne (by omega), List.getElem?_set_ne (by omega), List.getElem?_set_ne (by omega)]
      rcases hm with rfl | rfl | rfl
      · rw [h0, g0]
      · rw [h1, g1]
      · rw [h2, g2]
  · rw [List.getElem?_eq_none (by simp; omega), List.getElem?_eq_none (by rw [length_codes]; simp; omega)]

abbrev Trip := Value × Value × Value
def zero3 : Trip := (.string ByteArray.empty, .slice none 0 0, .slice none 0 0)
def trips (xs : List Trip) : List Value := xs.flatMap fun x => [x.1, x.2.1, x.2.2]
theorem length_trips (xs : List Trip) : (trips xs).length = xs.length * 3 := by
  induction xs with
  | nil => rfl
  | cons x xs ih => simp only [trips, List.flatMap_cons, List.length_append] at *; rw [ih]; simp; omega
theorem trips_append (xs ys : List Trip) : trips (xs ++ ys) = trips xs ++ trips ys := by simp [trips]
theorem trips_get (xs : List Trip) (i : Nat) (hi : i < xs.length) : (trips xs)[i * 3]? = some (xs.getD i zero3).1 ∧ (trips xs)[i * 3 + 1]? = some (xs.getD i zero3).2.1 ∧
    (trips xs)[i * 3 + 2]? = some (xs.getD i zero3).2.2 := by
  induction xs generalizing i with
  | nil => simp at hi
  | cons x xs ih =>
    cases i with
    | zero => simp [trips]
    | succ i =>
      have := ih i (by simpa using hi)
      have e : trips (x :: xs) = [x.1, x.2.1, x.2.2] ++ trips xs := rfl
      rw [e, show (i + 1) * 3 = (i * 3) + 3 by omega]
      refine ⟨?_, ?_, ?_⟩
      · rw [List.getElem?_append_right (by simp)]; simpa using this.1
      · rw [List.getElem?_append_right (by simp)]; simpa using this.2.1
      · rw [List.getElem?_append_right (by simp)]; simpa using this.2.2
theorem trips_set (l : List Trip) (i : Nat) (x : Trip) (hi : i < l.length) : (((trips l).set (i * 3) x.1).set (i * 3 + 1) x.2.1).set (i * 3 + 2) x.2.2 = trips (l.set i x) := by
  apply List.ext_getElem?
  intro j
  have hlen : (trips l).length = l.length * 3 := length_trips l
  by_cases hj : j < l.length * 3
  · obtain ⟨h0, h1, h2⟩ := trips_get (l.set i x) (j / 3) (by simp; omega)
    obtain ⟨g0, g1, g2⟩ := trips_get l (j / 3) (by omega)
    have hm : j = j / 3 * 3 ∨ j = j / 3 * 3 + 1 ∨ j = j / 3 * 3 + 2 := by omega
    generalize hq : j / 3 = q at *
    by_cases hqi : q = i
    · subst hqi
      have hg : (l.set q x).getD q zero3 = x := by simp [List.getD, hi]
      rw [hg] at h0 h1 h2
      rcases hm with rfl | rfl | rfl
      · rw [h0, List.getElem?_set_ne (by omega), List.getElem?_set_ne (by omega), List.getElem?_set_self (by omega)]
      · rw [h1, List.getElem?_set_ne (by omega), List.getElem?_set_self (by simp; omega)]
      · rw [h2, List.getElem?_set_self (by simp; omega)]
    · have hg : (l.set i x).getD q zero3 = l.getD q zero3 := by simp [List.getD, List.getElem?_set_ne (show i ≠ q from fun e => hqi e.symm)]
      rw [hg] at h0 h1 h2
      rw [List.getElem?_set_ne (by omega), List.getElem?_set_ne (by omega), List.getElem?_set_ne (by omega)]
      rcases hm with rfl | rfl | rfl
      · rw [h0, g0]
      · rw [h1, g1]
      · rw [h2, g2]
  · rw [List.getElem?_eq_none (by simp; omega), List.getElem?_eq_none (by rw [length_trips]; simp; omega)]


/-- A phrase, a pack, as plain data. -/
structure Phr where
  name : ByteArray
  args : List Int
  code : List Ins
structure Pk where
  strings : List ByteArray
  phrases : List Phr
def noPhr : Phr := ⟨ByteArray.empty, [], []⟩

def PhraseAt (w : World) (b o : Nat) (f : Phr) : Prop :=
  ∃ aa ca ac cc, w.cell? ⟨b, o, none⟩ = some (.string f.name) ∧ w.cell? ⟨b, o + 1, none⟩ = some (.slice aa f.args.length ca) ∧ w.cell? ⟨b, o + 2, none⟩ = some (.slice ac f.code.length cc) ∧
    IntsAt w aa f.args.length f.args ∧ CodeAt w ac f.code.length f.code ∧ f.args.length ≤ 17592186044416 ∧ f.code.length ≤ 5864062014805 ∧ f.name.size ≤ 140737488355328
def PhrasesAt (w : World) (a : Option Addr) (n : Nat) (ps : List Phr) : Prop :=
  ps.length = n ∧ ∀ i, i < n → ∃ b o, a = some ⟨b, o, none⟩ ∧ PhraseAt w b (o + i * 3) (ps.getD i noPhr)
theorem PhraseAt.ext {w w' : World} {b o : Nat} {f : Phr} (h : PhraseAt w b o f) (e : Ext w w') : PhraseAt w' b o f := by
  obtain ⟨aa, ca, ac, cc, h1, h2, h3, h4, h5, h6⟩ := h
  exact ⟨aa, ca, ac, cc, e.cell h1, e.cell h2, e.cell h3, h4.ext e, h5.ext e, h6⟩
theorem PhrasesAt.ext {w w' : World} {a : Option Addr} {n : Nat} {ps : List Phr} (h : PhrasesAt w a n ps) (e : Ext w w') : PhrasesAt w' a n ps := by
  refine ⟨h.1, fun i hi => ?_⟩
  obtain ⟨b, o, h1, h2⟩ := h.2 i hi
  exact ⟨b, o, h1, h2.ext e⟩

/-- A phrase of our own making, its lists in new rows above L, with the marks behind. -/
def MEntry (w : World) (L : Nat) (v : Trip) (f : Phr) : Prop :=
  ∃ ba bc, L < ba ∧ L < bc ∧ v = (.string f.name, .slice (some ⟨ba, 0, none⟩) f.args.length (f.args.length + 8), .slice (some ⟨bc, 0, none⟩) f.code.length (f.code.length + 8)) ∧
    OwnRow w ba (ints (f.args ++ List.replicate 8 (-77))) 3 ∧ OwnRow w bc (codes (f.code ++ List.replicate 8 (-77, 7, 7))) 36
theorem MEntry.ext {w w' : World} {L : Nat} {v : Trip} {f : Phr} (h : MEntry w L v f) (e : Ext w w') : MEntry w' L v f := by
  obtain ⟨ba, bc, h1, h2, h3, h4, h5⟩ := h
  exact ⟨ba, bc, h1, h2, h3, h4.ext e, h5.ext e⟩
theorem MEntry.set {w : World} {L : Nat} {v : Trip} {f : Phr} (h : MEntry w L v f) (i : Nat) (u : Value) : MEntry (w.setCell ⟨L, i, none⟩ u) L v f := by
  obtain ⟨ba, bc, h1, h2, h3, h4, h5⟩ := h
  exact ⟨ba, bc, h1, h2, h3, h4.other (by omega) _ _, h5.other (by omega) _ _⟩
def Entries (w : World) (L : Nat) (vs : List Trip) (ps : List Phr) : Prop := ∀ i, i < vs.length → MEntry w L (vs.getD i zero3) (ps.getD i noPhr)
theorem Entries.ext {w w' : World} {L : Nat} {vs : List Trip} {ps : List Phr} (h : Entries w L vs ps) (e : Ext w w') : Entries w' L vs ps := fun i hi => (h i hi).ext e
theorem Entries.set {w : World} {L : Nat} {vs : List Trip} {ps : List Phr} (h : Entries w L vs ps) (i : Nat) (u : Value) : Entries (w.setCell ⟨L, i, none⟩ u) L vs ps := fun j hj => (h j hj).set i u
theorem Entries.push {w : World} {L : Nat} {vs : List Trip} {ps : List Phr} (h : Entries w L vs ps) {v : Trip} (e : MEntry w L v (ps.getD vs.length noPhr)) : Entries w L (vs ++ [v]) ps := by
  intro i hi
  by_cases h' : i < vs.length
  · have hg : (vs ++ [v]).getD i zero3 = vs.getD i zero3 := by simp [List.getD, List.getElem?_append_left h']
    rw [hg]; exact h i h'
  · have : i = vs.length := by simp at hi; omega
    subst this
    have hg : (vs ++ [v]).getD vs.length zero3 = v := by simp [List.getD]
    rw [hg]; exact e

theorem IntsAt.of_row {w : World} {b n : Nat} {xs : List Int} {t : TypeId} (h : OwnRow w b (ints xs) t) (hn : xs.length = n) : IntsAt w (some ⟨b, 0, none⟩) n xs := by
  refine ⟨hn, fun i hi => ⟨b, 0, rfl, ?_⟩⟩
  rw [h.cell]
  simp [ints, List.getD, List.getElem?_eq_getElem (show i < xs.length by omega)]
theorem StrsAt.of_row {w : World} {b n : Nat} {xs : List ByteArray} {t : TypeId} (h : OwnRow w b (strs xs) t) (hn : xs.length = n) : StrsAt w (some ⟨b, 0, none⟩) n xs := by
  refine ⟨hn, fun i hi => ⟨b, 0, rfl, ?_⟩⟩
  rw [h.cell]
  simp [strs, List.getD, List.getElem?_eq_getElem (show i < xs.length by omega)]
theorem CodeAt.of_row {w : World} {b n : Nat} {xs : List Ins} {t : TypeId} (h : OwnRow w b (codes xs) t) (hn : xs.length = n) : CodeAt w (some ⟨b, 0, none⟩) n xs := by
  refine ⟨hn, fun i hi => ⟨b, 0, rfl, ?_⟩⟩
  obtain ⟨h0, h1, h2⟩ := codes_get xs i (by omega)
  rw [h.cell, h.cell, h.cell, Nat.zero_add]
  exact ⟨h0, h1, h2⟩

end Go.Proofs.YtkhenmpdlnhgjaaDoor
