import Derived.Test.YtkhenmpdlnhgjaaDoorRows
import Derived.WalkKit
import Derived.WalkSpells
import Derived.WalkLawsBesides
import Derived.Deep.QuietTactic
import Derived.BigQuiet
namespace Go.Proofs.YtkhenmpdlnhgjaaDoor
open Go.RowKit

theorem hide {p : Prop} (h : p) : Hid p := h
theorem unhide {p : Prop} (h : Hid p) : p := h
/-- Nothing that was there has turned. -/
def Ext (w w' : World) : Prop := Below w.heap.size w w'
theorem Ext.refl (w : World) : Ext w w := Below.refl _ _
theorem Ext.trans {a b c : World} (h : Ext a b) (k : Ext b c) : Ext a c := Below.trans h (Below.mono k h.size)
theorem Ext.drewN (w : World) (n : Nat) : Ext w (w.drewN n) := by
  induction n with
  | zero => exact Below.refl _ _
  | succ n ih => exact ⟨ih.os, ih.tape, ih.output, ih.size, ih.block⟩
theorem Ext.drew {a w : World} (h : Ext a w) : Ext a w.drew := Below.drew h
theorem Ext.alloc {a w : World} (h : Ext a w) (o : Obj) : Ext a (w.alloc o) := Below.alloc h h.size o
theorem lt_of_cell {w : World} {b o : Nat} {v : Value} (h : w.cell? ⟨b, o, none⟩ = some v) : b < w.heap.size := by
  unfold World.cell? at h
  cases hb : w.heap[b]? with
  | none => simp [hb] at h
  | some x => exact (Array.getElem?_eq_some_iff.1 hb).1
theorem Ext.cell {w w' : World} (h : Ext w w') {b o : Nat} {v : Value} (hc : w.cell? ⟨b, o, none⟩ = some v) : w'.cell? ⟨b, o, none⟩ = some v := by
  rw [Below.cell h (p := ⟨b, o, none⟩) (lt_of_cell hc)]; exact hc

def IntsAt (w : World) (a : Option Addr) (n : Nat) (xs : List Int) : Prop :=
  xs.length = n ∧ ∀ i, i < n → ∃ b o, a = some ⟨b, o, none⟩ ∧ w.cell? ⟨b, o + i, none⟩ = some (.int .i64 (xs.getD i 0))
def StrsAt (w : World) (a : Option Addr) (n : Nat) (xs : List ByteArray) : Prop :=
  xs.length = n ∧ ∀ i, i < n → ∃ b o, a = some ⟨b, o, none⟩ ∧ w.cell? ⟨b, o + i, none⟩ = some (.string (xs.getD i ByteArray.empty))
theorem IntsAt.ext {w w' : World} {a : Option Addr} {n : Nat} {xs : List Int} (h : IntsAt w a n xs) (e : Ext w w') : IntsAt w' a n xs := by
  refine ⟨h.1, fun i hi => ?_⟩
  obtain ⟨b, o, h1, h2⟩ := h.2 i hi
  exact ⟨b, o, h1, e.cell h2⟩
theorem StrsAt.ext {w w' : World} {a : Option Addr} {n : Nat} {xs : List ByteArray} (h : StrsAt w a n xs) (e : Ext w w') : StrsAt w' a n xs := by
  refine ⟨h.1, fun i hi => ?_⟩
  obtain ⟨b, o, h1, h2⟩ := h.2 i hi
  exact ⟨b, o, h1, e.cell h2⟩

/-- An instruction's three numbers. -/
abbrev Ins := Int × Int × Int
def CodeAt (w : World) (a : Option Addr) (n : Nat) (xs : List Ins) : Prop :=
  xs.length = n ∧ ∀ i, i < n → ∃ b o, a = some ⟨b, o, none⟩ ∧ w.cell? ⟨b, o + i * 3, none⟩ = some (.int .i64 (xs.getD i (0, 0, 0)).1) ∧
    w.cell? ⟨b, o + i * 3 + 1, none⟩ = some (.int .i64 (xs.getD i (0, 0, 0)).2.1) ∧ w.cell? ⟨b, o + i * 3 + 2, none⟩ = some (.int .i64 (xs.getD i (0, 0, 0)).2.2)
theorem CodeAt.ext {w w' : World} {a : Option Addr} {n : Nat} {xs : List Ins} (h : CodeAt w a n xs) (e : Ext w w') : CodeAt w' a n xs := by
  refine ⟨h.1, fun i hi => ?_⟩
  obtain ⟨b, o, h1, h2, h3, h4⟩ := h.2 i hi
  exact ⟨b, o, h1, e.cell h2, e.cell h3, e.cell h4⟩

/-- A world that has come out of w, nothing turned. -/
structure ExtW (w : World) where
  world : World
  ext : Ext w world
theorem wp_region_ext_lit {P : Program} {id : Nat} {Q : Exit → Act → World → Prop} {a : Act} {w : World} {l : List Oper} (hm : P.follows .mixedOrders = true) (hB : Region.lexB .any l.toArray = true)
    (h : wpQuiet P l.toArray (fun w' => ∃ n : ExtW w, w' = n.world) (fun a' => ∀ w', (∃ n : ExtW w, w' = n.world) → Q .normal a' w') l a) : (Code.region id l.toArray true).wp P Q a w :=
  wp_region_quiet (C := fun w' => ∃ n : ExtW w, w' = n.world) hm hB ⟨⟨w.drew, (Ext.refl w).drew⟩, rfl⟩ (by simpa using h)
theorem wp_region_ext_from {P : Program} {id : Nat} {Q : Exit → Act → World → Prop} {a : Act} {wb w : World} {l : List Oper} (hx : Ext wb w) (hm : P.follows .mixedOrders = true) (hB : Region.lexB .any l.toArray = true)
    (h : wpQuiet P l.toArray (fun w' => ∃ n : ExtW wb, w' = n.world) (fun a' => ∀ w', (∃ n : ExtW wb, w' = n.world) → Q .normal a' w') l a) : (Code.region id l.toArray true).wp P Q a w :=
  wp_region_quiet (C := fun w' => ∃ n : ExtW wb, w' = n.world) hm hB ⟨⟨w.drew, hx.drew⟩, rfl⟩ (by simpa using h)
theorem ExtW.of {wb w : World} (h : Ext wb w) : ∃ n : ExtW wb, n.world = w := ⟨⟨w, h⟩, rfl⟩
theorem calls_ext_of {P : Program} {f : FuncId} {args : Array Value} {w : World} {n : ExtW w} {v : Value}
    (h : Calls P f args n.world fun e w' => e = .returned v ∧ Ext n.world w') : Calls P f args n.world fun e w'' => e = .returned v ∧ ∃ m : ExtW w, w'' = m.world :=
  h.mono fun _ w' ⟨he, hm⟩ => ⟨he, ⟨w', n.ext.trans hm⟩, rfl⟩
theorem ExtW.cell {w : World} (n : ExtW w) {b o : Nat} {v : Value} (h : w.cell? ⟨b, o, none⟩ = some v) : n.world.cell? ⟨b, o, none⟩ = some v := n.ext.cell h

end Go.Proofs.YtkhenmpdlnhgjaaDoor
