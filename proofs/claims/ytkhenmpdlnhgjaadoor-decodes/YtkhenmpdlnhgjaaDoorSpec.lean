import Derived.Test.YtkhenmpdlnhgjaaDoorBase
namespace Go.Proofs.YtkhenmpdlnhgjaaDoor
open Go.RowKit

def fit (n m : Int) : Bool := decide (0 ≤ n) && decide (n ≤ m)
def okArgs (xs : List Int) : Bool := decide (xs.length ≤ 6) && xs.all fun k => fit k 1
def okIns (x : Ins) : Bool := fit x.1 255 && (fit x.2.1 2147483647 && fit x.2.2 2147483647)
def okCode (xs : List Ins) : Bool := decide (1 ≤ xs.length) && (decide (xs.length ≤ 60) && xs.all okIns)
def okPhr (f : Phr) : Bool := decide (1 ≤ f.name.size) && (decide (f.name.size ≤ 12) && (okArgs f.args && okCode f.code))
def hasN (l : List Phr) (nm : ByteArray) : Bool := l.any fun f => decide (f.name = nm)
def okStr (s : ByteArray) : Bool := decide (s.size ≤ 60)
/-- The first k phrases are all right. -/
def okTo (ps : List Phr) : Nat → Bool
  | 0 => true
  | k + 1 => okTo ps k && (okPhr (ps.getD k noPhr) && !hasN (ps.take k) (ps.getD k noPhr).name)
def okPack (P : Pk) : Bool := decide (P.strings.length ≤ 40) && (decide (P.phrases.length ≤ 12) && (P.strings.all okStr && okTo P.phrases P.phrases.length))

theorem okTo_false {ps : List Phr} {k n : Nat} (hk : k < n) (h : (okPhr (ps.getD k noPhr) && !hasN (ps.take k) (ps.getD k noPhr).name) = false) : okTo ps n = false := by
  induction n with
  | zero => omega
  | succ n ih =>
    unfold okTo
    by_cases hkn : k = n
    · subst hkn; rw [h]; simp
    · rw [ih (by omega)]; rfl

section
variable {α : Type} {p : α → Bool} {d : α} {xs : List α} {k n : Nat}
theorem take_succ_getD (h : k < xs.length) : xs.take (k + 1) = xs.take k ++ [xs.getD k d] := by
  rw [List.take_succ_eq_append_getElem h]; simp [List.getD, h]
theorem all_zero : (xs.take 0).all p = true := by simp
theorem all_succ (h : (xs.take k).all p = true) (hk : k < xs.length) (hp : p (xs.getD k d) = true) : (xs.take (k + 1)).all p = true := by
  rw [take_succ_getD hk (d := d), List.all_append, h]; simp only [List.all_cons, hp, List.all_nil]; rfl
theorem all_no (hk : k < xs.length) (hp : p (xs.getD k d) = false) : xs.all p = false := by
  rw [List.all_eq_false]; exact ⟨xs.getD k d, by simp [List.getD, hk], by rw [hp]; simp⟩
theorem all_full (h : (xs.take n).all p = true) (hn : xs.length = n) : xs.all p = true := by rwa [List.take_of_length_le (by omega)] at h
theorem any_zero : (xs.take 0).any p = false := by simp
theorem any_succ (h : (xs.take k).any p = false) (hk : k < xs.length) (hp : p (xs.getD k d) = false) : (xs.take (k + 1)).any p = false := by
  rw [take_succ_getD hk (d := d), List.any_append, h]; simp only [List.any_cons, hp, List.any_nil]; rfl
theorem any_yes (hk : k < xs.length) (hp : p (xs.getD k d) = true) : xs.any p = true := by
  rw [List.any_eq_true]; exact ⟨xs.getD k d, by simp [List.getD, hk], hp⟩
theorem any_full (h : (xs.take n).any p = false) (hn : xs.length = n) : xs.any p = false := by rwa [List.take_of_length_le (by omega)] at h
end

end Go.Proofs.YtkhenmpdlnhgjaaDoor
