import Derived.Test.YtkhenmpdlnhgjaaDoorRep
import Derived.Laws.CopyOwn
namespace Go.Proofs.YtkhenmpdlnhgjaaDoor
open Go.RowKit

theorem alloc_heap (w : World) (o : Obj) : (w.alloc o).heap[w.heap.size]? = some o := by
  show (w.heap.push o)[w.heap.size]? = _
  simp
theorem setRow_alloc (w : World) (cur cs : Array Value) (t : TypeId) : (w.alloc (.cells cur t)).setRow w.heap.size cs = w.alloc (.cells cs t) := by
  unfold World.setRow
  show { w with heap := (w.heap.push (.cells cur t)).modify w.heap.size _ } = { w with heap := w.heap.push (.cells cs t) }
  congr 1
  apply Array.ext_getElem?
  intro i
  simp only [Array.getElem?_modify, Array.getElem?_push]
  by_cases h : w.heap.size = i
  · subst h; simp
  · have h' : ¬ i = w.heap.size := fun e => h e.symm
    simp [h, h']

theorem run_copy_new {P : Program} (w : World) (dT sT ty elem : TypeId) (s : Nat) (a : Option Addr) (n m cap cap2 : Nat) (cur : Array Value) (t : TypeId) (cs : List Value)
    (hu : P.underlying dT = some (.slice elem)) (hs : (P.info? elem).map (·.size) = some s) (hn : n ≤ m) (hlen : cs.length = n * s) (hcur : n * s ≤ cur.size)
    (hsrc : 0 < n → ∃ b o, a = some ⟨b, o, none⟩ ∧ ∀ j v, cs[j]? = some v → w.cell? ⟨b, o + j, none⟩ = some v) (h1 : ∀ v ∈ cs, v.oneCell' = true) :
    (Builtin.copy_ #[dT, sT] ty #[.slice (some ⟨w.heap.size, 0, none⟩) m cap, .slice a n cap2]).run P (w.alloc (.cells cur t)) =
      .ok (goInt n) (w.alloc (.cells (cs ++ cur.toList.drop (n * s)).toArray t)) := by
  have hst := run_storeCells_at P w.heap.size 0 t cs 0 cur (w.alloc (.cells cur t)) (alloc_heap w _) (by omega) h1
  rw [setRow_alloc] at hst
  simp only [Nat.zero_add, Nat.add_zero, List.take_zero, List.nil_append] at hst
  have hmin : Nat.min n m = n := Nat.min_eq_left hn
  cases hq : P.info? elem with
  | none => simp [hq] at hs
  | some i =>
    have hi : i.size = s := by simpa [hq] using hs
    by_cases h0 : 0 < n
    · obtain ⟨b, o, rfl, hc⟩ := hsrc h0
      have hl := run_loadCells_list (P := P) (w.alloc (.cells cur t)) ⟨b, o, none⟩ cs (fun j v hj => by
        have := (Ext.refl w).alloc (.cells cur t)
        have hadd : (⟨b, o, none⟩ : Addr).add j = ⟨b, o + j, none⟩ := by
          unfold Addr.add; split
          · next e => subst e; rfl
          · rfl
        rw [hadd]
        exact this.cell (hc j v hj))
      simp [Builtin.copy_, run_underlying hu, Builtin.lenOf, Builtin.firstCells, sizeOf, typeInfo, hq, hi, hmin, ← hlen, hl, hst]
    · obtain rfl : n = 0 := by omega
      obtain rfl : cs = [] := List.eq_nil_of_length_eq_zero (by simpa using hlen)
      have hl := run_loadCells_list (P := P) (w.alloc (.cells cur t))
      cases a with
      | none => simp [Builtin.copy_, run_underlying hu, Builtin.lenOf, Builtin.firstCells, sizeOf, typeInfo, hq, storeCells]
      | some a => 
        have hl' := hl a [] (fun j v hj => by simp at hj)
        simp only [List.length_nil] at hl'
        simp [Builtin.copy_, run_underlying hu, Builtin.lenOf, Builtin.firstCells, sizeOf, typeInfo, hq, storeCells, hl']

/-- Block g is a row of these cells, of which none is frozen. -/
def OwnRow (w : World) (g : Nat) (D : List Value) (t : TypeId) : Prop := w.heap[g]? = some (.cells D.toArray t (0, 0))
theorem OwnRow.alloc (w : World) (D : List Value) (t : TypeId) : OwnRow (w.alloc (.cells D.toArray t)) w.heap.size D t := alloc_heap w _
theorem OwnRow.lt {w : World} {g : Nat} {D : List Value} {t : TypeId} (h : OwnRow w g D t) : g < w.heap.size := (Array.getElem?_eq_some_iff.1 h).1
theorem OwnRow.cell {w : World} {g : Nat} {D : List Value} {t : TypeId} (h : OwnRow w g D t) (i : Nat) : w.cell? ⟨g, i, none⟩ = D[i]? := by
  unfold World.cell?; rw [show w.heap[g]? = _ from h]; simp
theorem OwnRow.frozen {w : World} {g : Nat} {D : List Value} {t : TypeId} (h : OwnRow w g D t) (i : Nat) : w.frozen? ⟨g, i, none⟩ = false := by
  unfold World.frozen?; rw [show w.heap[g]? = _ from h]; simp
theorem OwnRow.set {w : World} {g : Nat} {D : List Value} {t : TypeId} (h : OwnRow w g D t) (i : Nat) (v : Value) : OwnRow (w.setCell ⟨g, i, none⟩ v) g (D.set i v) t := by
  unfold OwnRow World.setCell
  simp only [Array.getElem?_modify]
  rw [show w.heap[g]? = _ from h]; simp
theorem OwnRow.below {w w' : World} {B g : Nat} {D : List Value} {t : TypeId} (h : OwnRow w g D t) (e : Below B w w') (hg : g < B) : OwnRow w' g D t := by
  unfold OwnRow; rw [e.block g hg]; exact h
theorem OwnRow.ext {w w' : World} {g : Nat} {D : List Value} {t : TypeId} (h : OwnRow w g D t) (e : Ext w w') : OwnRow w' g D t := h.below e h.lt
theorem OwnRow.other {w : World} {g : Nat} {D : List Value} {t : TypeId} (h : OwnRow w g D t) {b : Nat} (hb : b ≠ g) (i : Nat) (v : Value) : OwnRow (w.setCell ⟨b, i, none⟩ v) g D t := by
  unfold OwnRow; rw [Below.heap_setCell _ _ _ _ (by simpa using Ne.symm hb)]; exact h

theorem Ext.setCell {a w : World} (h : Ext a w) {b i : Nat} (hb : a.heap.size ≤ b) (v : Value) : Ext a (w.setCell ⟨b, i, none⟩ v) := Below.setCell h (p := ⟨b, i, none⟩) hb v
theorem OwnRow.set3 {w : World} {g : Nat} {D : List Value} {t : TypeId} (h : OwnRow w g D t) (i : Nat) (x y z : Value) :
    OwnRow (((w.setCell ⟨g, i, none⟩ x).setCell ⟨g, i + 1, none⟩ y).setCell ⟨g, i + 2, none⟩ z) g (((D.set i x).set (i + 1) y).set (i + 2) z) t := ((h.set i x).set (i + 1) y).set (i + 2) z

end Go.Proofs.YtkhenmpdlnhgjaaDoor
