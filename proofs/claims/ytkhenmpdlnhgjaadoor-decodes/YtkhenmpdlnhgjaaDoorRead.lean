import Derived.Test.YtkhenmpdlnhgjaaDoorUnseal
import Derived.Test.YtkhenmpdlnhgjaaDoorWithin3
namespace Go.Proofs.YtkhenmpdlnhgjaaDoor
open Go.RowKit

def pPack (bs : List UInt8) : Option Pk :=
  (pSeal bs).bind fun body => (pTake 3 body).bind fun h => if h.1 = [80, 66, 1] then (pList pText h.2).bind fun x => (pList pPhr x.2).bind fun y => if y.2 = [] ∧ okPack ⟨x.1, y.1⟩ = true then some ⟨x.1, y.1⟩ else none else none

theorem pMany_len {α : Type} {item : List UInt8 → Option (α × List UInt8)} : ∀ (n : Nat) (bs : List UInt8) (x : List α × List UInt8), pMany item n bs = some x → x.1.length = n
  | 0, bs, x, h => by simp only [pMany, Option.some.injEq] at h; subst h; rfl
  | n + 1, bs, x, h => by
    unfold pMany at h
    obtain ⟨a, ha, h⟩ := Option.bind_eq_some_iff.1 h
    obtain ⟨b, hb, rfl⟩ := Option.map_eq_some_iff.1 h
    have := pMany_len n bs a ha
    simp [this]
theorem pList_len {α : Type} {item : List UInt8 → Option (α × List UInt8)} {bs : List UInt8} {x : List α × List UInt8} (h : pList item bs = some x) : x.1.length ≤ 2147483647 := by
  unfold pList at h
  obtain ⟨a, ha, h⟩ := Option.bind_eq_some_iff.1 h
  have h1 := pNum_le ha
  rw [pMany_len _ _ _ h]; exact h1.1
theorem pMany_all {α : Type} {item : List UInt8 → Option (α × List UInt8)} {p : α → Prop} {m : Nat} (hi : ∀ bs x, item bs = some x → bs.length ≤ m → p x.1 ∧ x.2.length ≤ bs.length) : ∀ (n : Nat) (bs : List UInt8) (x : List α × List UInt8), pMany item n bs = some x → bs.length ≤ m → (∀ a ∈ x.1, p a) ∧ x.2.length ≤ bs.length
  | 0, bs, x, h, _ => by simp only [pMany, Option.some.injEq] at h; subst h; exact ⟨by simp, Nat.le_refl _⟩
  | n + 1, bs, x, h, hm => by
    unfold pMany at h
    obtain ⟨a, ha, h⟩ := Option.bind_eq_some_iff.1 h
    obtain ⟨b, hb, rfl⟩ := Option.map_eq_some_iff.1 h
    obtain ⟨h1, h2⟩ := pMany_all hi n bs a ha hm
    obtain ⟨h3, h4⟩ := hi _ _ hb (by omega)
    refine ⟨fun y hy => ?_, by simp only; omega⟩
    simp only [List.mem_append, List.mem_singleton] at hy
    rcases hy with hy | rfl
    · exact h1 y hy
    · exact h3
theorem pList_all {α : Type} {item : List UInt8 → Option (α × List UInt8)} {p : α → Prop} {m : Nat} (hi : ∀ bs x, item bs = some x → bs.length ≤ m → p x.1 ∧ x.2.length ≤ bs.length) {bs : List UInt8} {x : List α × List UInt8} (h : pList item bs = some x) (hm : bs.length ≤ m) : ∀ a ∈ x.1, p a := by
  unfold pList at h
  obtain ⟨a, ha, h⟩ := Option.bind_eq_some_iff.1 h
  have h1 := pNum_le ha
  exact (pMany_all hi _ _ _ h (by omega)).1
/-- Phrases that were read are no larger than the memory can hold. -/
def PSized (f : Phr) : Prop := f.args.length ≤ 17592186044416 ∧ f.code.length ≤ 5864062014805 ∧ f.name.size ≤ 140737488355328
theorem pPhr_sized {bs : List UInt8} {x : Phr × List UInt8} (h : pPhr bs = some x) (hm : bs.length ≤ 140737488355328) : PSized x.1 ∧ x.2.length ≤ bs.length := by
  refine ⟨?_, pPhr_le h⟩
  unfold pPhr at h
  obtain ⟨a, ha, h⟩ := Option.bind_eq_some_iff.1 h
  obtain ⟨b, hb, h⟩ := Option.bind_eq_some_iff.1 h
  obtain ⟨c, hc, rfl⟩ := Option.map_eq_some_iff.1 h
  have h1 := (pText_le ha).1
  have h2 := pList_len hb
  have h3 := pList_len hc
  exact ⟨by simp only; omega, by simp only; omega, by simp only; omega⟩

theorem strsAt_of_owns {w : World} {B n : Nat} {a : Option Addr} {m c : Nat} {xs : List ByteArray} (h : w.ownsRow B 9 1 (.slice a m c) n (strs xs)) (hn : xs.length = n) : m = n ∧ m ≤ c ∧ StrsAt w a m xs := by
  rcases h.2 with ⟨he, h0⟩ | ⟨g, cap, cur, he, _, hg, hnc, _, _, _⟩
  · cases he; subst h0
    exact ⟨rfl, Nat.le_refl _, hn, fun i hi => absurd hi (Nat.not_lt_zero _)⟩
  · cases he
    refine ⟨rfl, hnc, hn, fun i hi => ⟨g, 0, rfl, ?_⟩⟩
    have hc := World.ownsRow.cells h (g := g) rfl i (.string (xs.getD i ByteArray.empty)) (by simp [strs, List.getD, List.getElem?_eq_getElem (show i < xs.length by omega)])
    have hadd : (⟨g, 0, none⟩ : Addr).add i = ⟨g, 0 + i, none⟩ := by
      unfold Addr.add; split
      · next e => subst e; rfl
      · rfl
    rw [hadd] at hc; exact hc
theorem intsAt_of_owns {w : World} {B n : Nat} {a : Option Addr} {m c : Nat} {xs : List Int} (h : w.ownsRow B 3 1 (.slice a m c) n (ints xs)) (hn : xs.length = n) : m = n ∧ IntsAt w a m xs := by
  rcases h.2 with ⟨he, h0⟩ | ⟨g, cap, cur, he, _, hg, hnc, _, _, _⟩
  · cases he; subst h0
    exact ⟨rfl, hn, fun i hi => absurd hi (Nat.not_lt_zero _)⟩
  · cases he
    refine ⟨rfl, hn, fun i hi => ⟨g, 0, rfl, ?_⟩⟩
    have hc := World.ownsRow.cells h (g := g) rfl i (.int .i64 (xs.getD i 0)) (by simp [ints, List.getD, List.getElem?_eq_getElem (show i < xs.length by omega)])
    have hadd : (⟨g, 0, none⟩ : Addr).add i = ⟨g, 0 + i, none⟩ := by
      unfold Addr.add; split
      · next e => subst e; rfl
      · rfl
    rw [hadd] at hc; exact hc
theorem addr0 (g i : Nat) : (⟨g, 0, none⟩ : Addr).add i = ⟨g, 0 + i, none⟩ := by
  unfold Addr.add; split
  · next e => subst e; rfl
  · rfl
theorem codeAt_of_owns {w : World} {B n : Nat} {a : Option Addr} {m c : Nat} {xs : List Ins} (h : w.ownsRow B 36 3 (.slice a m c) n (codes xs)) (hn : xs.length = n) : m = n ∧ CodeAt w a m xs := by
  rcases h.2 with ⟨he, h0⟩ | ⟨g, cap, cur, he, _, hg, hnc, _, _, _⟩
  · cases he; subst h0
    exact ⟨rfl, hn, fun i hi => absurd hi (Nat.not_lt_zero _)⟩
  · cases he
    refine ⟨rfl, hn, fun i hi => ⟨g, 0, rfl, ?_⟩⟩
    obtain ⟨c0, c1, c2⟩ := codes_get xs i (by omega)
    have h0 := World.ownsRow.cells h (g := g) rfl _ _ c0
    have h1 := World.ownsRow.cells h (g := g) rfl _ _ c1
    have h2 := World.ownsRow.cells h (g := g) rfl _ _ c2
    rw [addr0] at h0 h1 h2
    exact ⟨h0, h1, h2⟩
theorem phrasesAt_of_owns {w : World} {B n : Nat} {a : Option Addr} {m c : Nat} {vs : List Trip} {ps : List Phr} (h : w.ownsRow B 41 3 (.slice a m c) n (trips vs)) (hv : vs.length = n) (he : PEntries w B vs ps) (hz : ∀ f ∈ ps, PSized f) : m = n ∧ m ≤ c ∧ PhrasesAt w a m ps := by
  have hpl := he.1
  rcases h.2 with ⟨hh, h0⟩ | ⟨g, cap, cur, hh, _, hg, hnc, _, _, _⟩
  · cases hh; subst h0
    exact ⟨rfl, Nat.le_refl _, by omega, fun i hi => absurd hi (Nat.not_lt_zero _)⟩
  · cases hh
    refine ⟨rfl, hnc, by omega, fun i hi => ⟨g, 0, rfl, ?_⟩⟩
    obtain ⟨c0, c1, c2⟩ := trips_get vs i (by omega)
    obtain ⟨va, vc, ht, ha, hc⟩ := he.2 i (by omega)
    have hsz := hz (ps.getD i noPhr) (by simp [List.getD, List.getElem?_eq_getElem (show i < ps.length by omega)])
    generalize ps.getD i noPhr = f at ht ha hc hsz
    rw [ht] at c0 c1 c2
    have h0 := World.ownsRow.cells h (g := g) rfl _ _ c0
    have h1 := World.ownsRow.cells h (g := g) rfl _ _ c1
    have h2 := World.ownsRow.cells h (g := g) rfl _ _ c2
    rw [addr0] at h0 h1 h2
    obtain ⟨aa, an, acp, rfl⟩ := ownsSlice ha
    obtain ⟨ca, cn, ccp, rfl⟩ := ownsSlice hc
    obtain ⟨rfl, hia⟩ := intsAt_of_owns ha rfl
    obtain ⟨rfl, hca⟩ := codeAt_of_owns hc rfl
    exact ⟨aa, acp, ca, ccp, h0, h1, h2, hia, hca, hsz.1, hsz.2.1, hsz.2.2⟩

end Go.Proofs.YtkhenmpdlnhgjaaDoor
