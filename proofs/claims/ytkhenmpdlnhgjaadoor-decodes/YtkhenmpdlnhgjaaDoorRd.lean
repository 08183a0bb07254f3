import Derived.Test.YtkhenmpdlnhgjaaDoorSum
import Derived.Laws.Panics
import Derived.Lib.Strings
import Derived.Lib.IndexBytes
namespace Go.Proofs.YtkhenmpdlnhgjaaDoor
open Go.RowKit

/-! ### What the reader makes of bytes -/
def pOct : List UInt8 → Option (Nat × List UInt8)
  | [] => none
  | b :: r => some (b.toNat, r)
def numF : Nat → Nat → Nat → List UInt8 → Option (Nat × List UInt8)
  | 0, _, _, _ => none
  | _ + 1, _, _, [] => none
  | f + 1, i, n, b :: r => if 127 < b.toNat then numF f (i + 1) (n + b.toNat % 128 * 128 ^ i) r else if 2147483647 < n + b.toNat * 128 ^ i ∨ (b.toNat = 0 ∧ 0 < i) then none else some (n + b.toNat * 128 ^ i, r)
def pNum (bs : List UInt8) : Option (Nat × List UInt8) := numF 5 0 0 bs
def pTake (n : Nat) (bs : List UInt8) : Option (List UInt8 × List UInt8) := if n ≤ bs.length then some (bs.take n, bs.drop n) else none
def pText (bs : List UInt8) : Option (ByteArray × List UInt8) := (pNum bs).bind fun x => (pTake x.1 x.2).map fun y => (⟨y.1.toArray⟩, y.2)
def pIns (bs : List UInt8) : Option (Ins × List UInt8) := (pOct bs).bind fun x => (pNum x.2).bind fun y => (pNum y.2).map fun z => (((x.1 : Int), (y.1 : Int), (z.1 : Int)), z.2)
def pMany {α : Type} (item : List UInt8 → Option (α × List UInt8)) : Nat → List UInt8 → Option (List α × List UInt8)
  | 0, bs => some ([], bs)
  | n + 1, bs => (pMany item n bs).bind fun x => (item x.2).map fun y => (x.1 ++ [y.1], y.2)
def pList {α : Type} (item : List UInt8 → Option (α × List UInt8)) (bs : List UInt8) : Option (List α × List UInt8) := (pNum bs).bind fun x => pMany item x.1 x.2
def pKind (bs : List UInt8) : Option (Int × List UInt8) := (pOct bs).map fun x => ((x.1 : Int), x.2)
def pPhr (bs : List UInt8) : Option (Phr × List UInt8) := (pText bs).bind fun x => (pList pKind x.2).bind fun y => (pList pIns y.2).map fun z => (⟨x.1, y.1, z.1⟩, z.2)

theorem pMany_none {α : Type} {item : List UInt8 → Option (α × List UInt8)} {k : Nat} {bs : List UInt8} (h : pMany item k bs = none) : ∀ n, k ≤ n → pMany item n bs = none := by
  intro n hn
  induction n with
  | zero => have : k = 0 := by omega
            subst this; exact h
  | succ n ih =>
    by_cases hk : k = n + 1
    · subst hk; exact h
    · unfold pMany; rw [ih (by omega)]; rfl
theorem pOct_le {bs : List UInt8} {x : Nat × List UInt8} (h : pOct bs = some x) : x.1 < 256 ∧ x.2.length ≤ bs.length := by
  cases bs with
  | nil => simp [pOct] at h
  | cons b r => simp only [pOct, Option.some.injEq] at h; subst h; exact ⟨b.toNat_lt, by simp⟩
theorem numF_le : ∀ (f i n : Nat) (bs : List UInt8) (x : Nat × List UInt8), numF f i n bs = some x → x.1 ≤ 2147483647 ∧ x.2.length ≤ bs.length
  | 0, _, _, _, _, h => by simp [numF] at h
  | _ + 1, _, _, [], _, h => by simp [numF] at h
  | f + 1, i, n, b :: r, x, h => by
    unfold numF at h
    split at h
    · have := numF_le f _ _ _ _ h
      exact ⟨this.1, by simp; omega⟩
    · split at h
      · simp at h
      · simp only [Option.some.injEq] at h
        subst h
        exact ⟨by simp only; omega, by simp⟩
theorem pNum_le {bs : List UInt8} {x : Nat × List UInt8} (h : pNum bs = some x) : x.1 ≤ 2147483647 ∧ x.2.length ≤ bs.length := numF_le _ _ _ _ _ h
theorem pTake_le {n : Nat} {bs : List UInt8} {y : List UInt8 × List UInt8} (h : pTake n bs = some y) : y.1.length ≤ bs.length ∧ y.2.length ≤ bs.length := by
  unfold pTake at h
  split at h
  · simp only [Option.some.injEq] at h; subst h; simp; omega
  · simp at h
theorem pText_le {bs : List UInt8} {x : ByteArray × List UInt8} (h : pText bs = some x) : x.1.size ≤ bs.length ∧ x.2.length ≤ bs.length := by
  unfold pText at h
  obtain ⟨a, ha, h⟩ := Option.bind_eq_some_iff.1 h
  obtain ⟨y, hy, rfl⟩ := Option.map_eq_some_iff.1 h
  have h1 := pNum_le ha
  have h2 := pTake_le hy
  exact ⟨by simp [ByteArray.size]; omega, by simp only; omega⟩

/-! ### The reader in memory -/
/-- The reader at block g has these bytes still to be read. -/
def RD (w : World) (g : Nat) (bs : List UInt8) : Prop := OwnRow w g [.string ⟨bs.toArray⟩] 90
/-- What it gives up with. -/
def Gave (et : TypeId) (ev : Value) : Ending := .panicked [{ v := .iface et ev, recovered := false }]
/-- Of what was there only block g may have turned. -/
def KG (g : Nat) (w w' : World) : Prop := w.grownBy w' (some g)
theorem KG.refl (g : Nat) (w : World) : KG g w w := ⟨rfl, rfl, rfl, Nat.le_refl _, fun _ _ _ => rfl⟩
theorem KG.trans {g : Nat} {a b c : World} (h : KG g a b) (k : KG g b c) : KG g a c :=
  ⟨k.os.trans h.os, k.tape.trans h.tape, k.output.trans h.output, Nat.le_trans h.size k.size, fun i hi hn => (k.block i (Nat.lt_of_lt_of_le hi h.size) hn).trans (h.block i hi hn)⟩
theorem KG.of_ext {g : Nat} {a b : World} (h : Ext a b) : KG g a b := ⟨h.os, h.tape, h.output, h.size, fun i hi _ => h.block i hi⟩
theorem KG.set {g : Nat} {a b : World} (h : KG g a b) (i : Nat) (v : Value) : KG g a (b.setCell ⟨g, i, none⟩ v) :=
  h.trans ⟨rfl, rfl, rfl, by simp [World.setCell], fun k _ hk => Below.heap_setCell _ _ _ _ (fun e => hk (by simp at e; rw [e]))⟩
/-- A store into a block that was not there when it began. -/
theorem KG.setNew {g : Nat} {a b : World} (h : KG g a b) {n : Nat} (hn : a.heap.size ≤ n) (i : Nat) (v : Value) : KG g a (b.setCell ⟨n, i, none⟩ v) :=
  ⟨h.os, h.tape, h.output, by simp [World.setCell]; exact h.size, fun k hk hne => (Below.heap_setCell _ _ _ _ (by simp; omega)).trans (h.block k hk hne)⟩
theorem KG.grown {g : Nat} {a b c : World} {row : Option Nat} (h : KG g a b) (k : b.grownBy c row) (hr : ∀ n, row = some n → a.heap.size ≤ n) : KG g a c :=
  ⟨k.os.trans h.os, k.tape.trans h.tape, k.output.trans h.output, Nat.le_trans h.size k.size, fun i hi hn => (k.block i (Nat.lt_of_lt_of_le hi h.size) (fun e => by have := hr i e.symm; omega)).trans (h.block i hi hn)⟩
theorem KG.cell {g : Nat} {a b : World} (h : KG g a b) {n o : Nat} {v : Value} (hc : a.cell? ⟨n, o, none⟩ = some v) (hn : n ≠ g) : b.cell? ⟨n, o, none⟩ = some v := World.grownBy.cell h hc (fun e => hn (by simpa using e))
theorem KG.row {g : Nat} {a b : World} (h : KG g a b) {n : Nat} {D : List Value} {t : TypeId} (hr : OwnRow a n D t) (hn : n ≠ g) : OwnRow b n D t := by
  unfold OwnRow; rw [h.block n hr.lt (fun e => hn (by simpa using e))]; exact hr
theorem KG.ext {g : Nat} {a b c : World} (h : Ext a b) (hg : a.heap.size ≤ g) (k : KG g b c) : Ext a c :=
  ⟨k.os.trans h.os, k.tape.trans h.tape, k.output.trans h.output, Nat.le_trans h.size k.size, fun i hi => (k.block i (Nat.lt_of_lt_of_le hi h.size) (fun e => by cases e; omega)).trans (h.block i hi)⟩

theorem extract_take (bs : List UInt8) (n : Nat) : (⟨bs.toArray⟩ : ByteArray).extract 0 n = ⟨(bs.take n).toArray⟩ := by
  apply ByteArray.ext
  simp
theorem extract_drop (bs : List UInt8) (n : Nat) : (⟨bs.toArray⟩ : ByteArray).extract n bs.length = ⟨(bs.drop n).toArray⟩ := by
  apply ByteArray.ext
  simp
  exact List.take_of_length_le (by simp)

theorem ret_i64 {a b : Int} (h : a = b) : Ending.returned (.int .i64 a) = .returned (.int .i64 b) := by rw [h]

set_option maxHeartbeats 400000 in
theorem take_yes (g n : Nat) (bs : List UInt8) (w : World) (h : RD w g bs) (hn : n ≤ bs.length) (_hl : bs.length ≤ 140737488355328) :
    Calls Tryd.prog 45 #[.pointer (some ⟨g, 0, none⟩), .int .i64 n] w fun e w' => e = .returned (.string ⟨(bs.take n).toArray⟩) ∧ RD w' g (bs.drop n) ∧ KG g w w' := by
  have hc : w.cell? ⟨g, 0, none⟩ = some (.string ⟨bs.toArray⟩) := h.cell 0
  have hf := h.frozen 0
  have hi : ¬ (bs.length : Int) < n := by omega
  go_enter Tryd.func45, Tryd.ntmps45
  go_wp2
  go_ret
  exact ⟨by rw [← extract_take]; rfl, by rw [extract_drop]; exact h.set 0 _, (KG.refl g w).set 0 _⟩

set_option maxHeartbeats 400000 in
theorem take_no (g n : Nat) (bs : List UInt8) (et : TypeId) (ev : Value) (w : World) (h : RD w g bs) (hn : ¬ n ≤ bs.length) (_hm : n ≤ 2147483647) (_hl : bs.length ≤ 140737488355328) (hE : w.cell? ⟨0, 0, none⟩ = some (.iface et ev)) :
    Calls Tryd.prog 45 #[.pointer (some ⟨g, 0, none⟩), .int .i64 n] w fun e w' => e = Gave et ev ∧ KG g w w' := by
  have hc : w.cell? ⟨g, 0, none⟩ = some (.string ⟨bs.toArray⟩) := h.cell 0
  have hi : (bs.length : Int) < n := by omega
  go_enter Tryd.func45, Tryd.ntmps45
  go_wp2
  exact ⟨rfl, rfl, KG.refl _ _⟩

set_option maxHeartbeats 400000 in
theorem octet_yes (g : Nat) (b : UInt8) (bs : List UInt8) (w : World) (h : RD w g (b :: bs)) (hl : (b :: bs).length ≤ 140737488355328) :
    Calls Tryd.prog 59 #[.pointer (some ⟨g, 0, none⟩)] w fun e w' => e = .returned (.int .i64 b.toNat) ∧ RD w' g bs ∧ KG g w w' := by
  have hb : b.toNat < 256 := b.toNat_lt
  go_enter Tryd.func59, Tryd.ntmps59
  go_wp2_with fail
  refine (take_yes g 1 (b :: bs) w h (by simp) hl).mono ?_
  rintro e w1 ⟨rfl, hr, hk⟩
  go_wp2
  go_ret
  exact ⟨ret_i64 (wrap_id (x := (b.toNat : Int)) (by omega) (by omega)), hr, hk⟩

set_option maxHeartbeats 400000 in
theorem octet_no (g : Nat) (et : TypeId) (ev : Value) (w : World) (h : RD w g []) (hE : w.cell? ⟨0, 0, none⟩ = some (.iface et ev)) :
    Calls Tryd.prog 59 #[.pointer (some ⟨g, 0, none⟩)] w fun e w' => e = Gave et ev ∧ KG g w w' := by
  go_enter Tryd.func59, Tryd.ntmps59
  go_wp2_with fail
  refine (take_no g 1 [] et ev w h (by simp) (by omega) (by simp) hE).mono ?_
  rintro e w1 ⟨rfl, hk⟩
  exact ⟨rfl, rfl, hk⟩

end Go.Proofs.YtkhenmpdlnhgjaaDoor
