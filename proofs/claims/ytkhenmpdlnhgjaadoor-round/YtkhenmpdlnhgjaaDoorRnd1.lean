import Derived.Test.YtkhenmpdlnhgjaaDoorDec2
import Derived.Deep.RegionHeldLaw
import Derived.Deep.AppendLies
import Derived.Lib.ConvBytes
namespace Go.Proofs.YtkhenmpdlnhgjaaDoor
open Go.RowKit

/-! ### One byte turned: no pack's bytes -/
theorem sumStep_lt (s : Nat) (b : UInt8) : sumStep s b < 65521 := by unfold sumStep; omega
theorem sumStep_left {s t : Nat} {b : UInt8} (hs : s < 65521) (ht : t < 65521) (h : sumStep s b = sumStep t b) : s = t := by
  unfold sumStep at h
  omega
theorem sumStep_right {s : Nat} {b c : UInt8} (h : sumStep s b = sumStep s c) : b = c := by
  unfold sumStep at h
  have hb := b.toNat_lt
  have hc := c.toNat_lt
  apply UInt8.toNat_inj.1
  omega
theorem fold_inj : ∀ (l : List UInt8) (s t : Nat), s < 65521 → t < 65521 → l.foldl sumStep s = l.foldl sumStep t → s = t
  | [], _, _, _, _, h => h
  | b :: l, s, t, hs, ht, h => sumStep_left hs ht (fold_inj l _ _ (sumStep_lt s b) (sumStep_lt t b) h)
theorem sumB_inj {l l' : List UInt8} (h : sumB l = sumB l') : sumN l = sumN l' := by
  have h1 := sumN_lt l
  have h2 := sumN_lt l'
  unfold sumB at h
  simp only [List.cons.injEq, and_true] at h
  obtain ⟨ha, hb⟩ := h
  have ha' := congrArg UInt8.toNat ha
  have hb' := congrArg UInt8.toNat hb
  simp at ha' hb'
  omega
theorem sum_set {l : List UInt8} {k : Nat} {x : UInt8} (hk : k < l.length) (h : sumN (l.set k x) = sumN l) : x = l[k] := by
  have e1 : l = l.take k ++ l[k] :: l.drop (k + 1) := by simp
  have e2 : l.set k x = l.take k ++ x :: l.drop (k + 1) := by rw [List.set_eq_take_append_cons_drop, if_pos hk]
  have h1 : sumN (l.take k ++ l[k] :: l.drop (k + 1)) = sumN l := by rw [← e1]
  rw [e2, ← h1] at h
  unfold sumN at h
  simp only [List.foldl_append, List.foldl_cons] at h
  exact sumStep_right (fold_inj _ _ _ (sumStep_lt _ _) (sumStep_lt _ _) h)
theorem pSeal_set {l : List UInt8} {k : Nat} {x : UInt8} (hk : k < l.length) (hs : (pSeal l).isSome = true) (hx : x ≠ l[k]) : pSeal (l.set k x) = none := by
  unfold pSeal at hs
  split at hs
  · next h =>
    obtain ⟨h2, h3⟩ := h
    unfold pSeal
    rw [if_neg]
    rintro ⟨_, h4⟩
    rw [List.length_set] at h4
    by_cases hb : k < l.length - 2
    · rw [List.drop_set_of_lt (by omega), List.take_set] at h4
      have e : (l.take (l.length - 2))[k]'(by simp; omega) = l[k] := by simp
      rw [h3] at h4
      have := sum_set (l := l.take (l.length - 2)) (k := k) (x := x) (by simp; omega) (sumB_inj h4).symm
      rw [e] at this
      exact hx this
    · rw [List.take_set_of_le (by omega), ← h3] at h4
      have h5 := congrArg (fun m => m[k - (l.length - 2)]?) h4
      simp only [List.getElem?_drop] at h5
      rw [show l.length - 2 + (k - (l.length - 2)) = k by omega] at h5
      rw [List.getElem?_set_self hk, List.getElem?_eq_getElem hk] at h5
      simp at h5
      exact hx h5
  · simp at hs
theorem pPack_set {P : Pk} {k : Nat} {x : UInt8} (hk : k < (packB P).length) (hx : x ≠ (packB P)[k]) : pPack ((packB P).set k x) = none := by
  unfold pPack
  rw [pSeal_set hk (by unfold packB; rw [pSeal_complete]; rfl) hx]
  rfl

/-! ### Which of n things -/
def pk (c : Int) (n : Nat) : Int := (if c < 0 then -(c + 1) else c) % n
theorem pk_bd (c : Int) {n : Nat} (hn : 0 < n) : 0 ≤ pk c n ∧ pk c n < n := by
  unfold pk
  exact ⟨Int.emod_nonneg _ (by omega), Int.emod_lt_of_pos _ (by omega)⟩

set_option maxHeartbeats 400000 in
theorem pick_any (c : Int) (n : Nat) (w : World) (h1 : -9223372036854775808 ≤ c) (h2 : c ≤ 9223372036854775807) (hn : 0 < n) (hm : n ≤ 9223372036854775807) :
    Calls Tryd.prog 9 #[.int .i64 c, .int .i64 n] w fun e w' => e = .returned (.int .i64 (pk c n)) ∧ w' = w := by
  have hz : ¬ (n : Int) = 0 := by omega
  by_cases hc : c < 0
  · have e1 : wrap64 (c + 1) = c + 1 := wrap_id (by omega) (by omega)
    have e2 : wrap64 (-(c + 1)) = -(c + 1) := wrap_id (by omega) (by omega)
    have e3 : (-(c + 1)).tmod n = pk c n := by unfold pk; rw [if_pos hc, Int.tmod_eq_emod_of_nonneg (by omega)]
    go_enter Tryd.func9, Tryd.ntmps9
    go_wp2
    go_ret
    exact ⟨rfl, rfl⟩
  · have e3 : c.tmod n = pk c n := by unfold pk; rw [if_neg hc, Int.tmod_eq_emod_of_nonneg (by omega)]
    go_enter Tryd.func9, Tryd.ntmps9
    go_wp2
    go_ret
    exact ⟨rfl, rfl⟩

/-! ### The byte that is turned -/
theorem turned_ne (b : UInt8) {d : Nat} (h : d < 255) : b + UInt8.ofNat (1 + d) ≠ b := by
  intro e
  have h2 := congrArg UInt8.toNat e
  have hb := b.toNat_lt
  simp at h2
  omega
theorem turned_val (b : UInt8) (d : Nat) : IntKind.u8.wrap ((b.toNat : Int) + IntKind.u8.wrap (IntKind.i64.wrap (1 + (d : Int)))) = ((b + UInt8.ofNat (1 + d)).toNat : Int) := by
  rw [IntKind.wrap_u8', IntKind.wrap_u8', IntKind.wrap_i64]
  simp
  omega
/-- The bytes of a string in a new row. -/
theorem conv_str (w : World) (bs : List UInt8) : ∃ cp W8, (convert 9 44 (.string ⟨bs.toArray⟩)).run Tryd.prog w = .ok (.slice (some ⟨w.heap.size, 0, none⟩) bs.length cp) W8 ∧ Ext w W8 ∧ bs.length ≤ cp ∧ w.heap.size < W8.heap.size ∧
    (∀ j (hj : j < bs.length), W8.cell? ⟨w.heap.size, j, none⟩ = some (.int .u8 (bs[j].toNat : Int))) ∧ ∀ j, j < bs.length → W8.frozen? ⟨w.heap.size, j, none⟩ = false := by
  have h := Lib.run_convert_string_bytes (P := Tryd.prog) w 9 44 5 ⟨bs.toArray⟩ Tryd.underlying9 Tryd.underlying44 Tryd.underlying5
  rw [size_mk] at h
  refine ⟨_, _, h, ?_, ?_, ?_, ?_, ?_⟩
  · exact ⟨rfl, rfl, rfl, by rw [Lib.bytesWorld_size]; omega, fun i hi => Lib.bytesWorld_at_old _ _ _ i hi⟩
  · exact grownCap_ge _ _ _ _
  · rw [Lib.bytesWorld_size]; omega
  · intro j hj
    have := Lib.bytesWorld_cell w 5 ⟨bs.toArray⟩ j (by rw [size_mk]; exact hj)
    rw [this]
    simp [List.getD, hj]
  · intro j hj
    unfold World.frozen?
    rw [Lib.bytesWorld_at_new]
    have hs : j < (Lib.bytesCells w 5 ⟨bs.toArray⟩).size := by
      unfold Lib.bytesCells
      simp
      omega
    simp only [Bool.and_eq_false_iff, decide_eq_false_iff_not]
    omega

theorem cells_set {w : World} {g k : Nat} {bs : List UInt8} {x : UInt8} (hk : k < bs.length) (h : ∀ j (hj : j < bs.length), w.cell? ⟨g, j, none⟩ = some (.int .u8 (bs[j].toNat : Int))) :
    ∀ i (hi : i < (bs.set k x).length), ((w.setCell ⟨g, k, none⟩ (.int .u8 (x.toNat : Int))).drew).cell? ⟨g, 0 + i, none⟩ = some (.int .u8 ((bs.set k x)[i].toNat : Int)) := by
  intro i hi
  rw [List.length_set] at hi
  show (w.setCell ⟨g, k, none⟩ (.int .u8 (x.toNat : Int))).cell? ⟨g, 0 + i, none⟩ = _
  rw [Nat.zero_add]
  by_cases hik : k = i
  · subst hik
    rw [List.getElem_set_self]
    exact World.cell?_setCell_same _ _ _ (h k hk)
  · rw [List.getElem_set_ne hik, World.cell?_setCell_other]
    · exact h i hi
    · intro e
      injection e with _ e2 _
      exact hik e2

/-! ### The pack of the law -/
theorem owns_le {B n : Nat} {w : World} {e : TypeId} {sz : Nat} {a : Option Addr} {m c : Nat} {xs : List Value} (h : w.ownsRow B e sz (.slice a m c) n xs) : n ≤ c := by
  rcases h.2 with ⟨he, h0⟩ | ⟨g, cap, cur, he, _, hg, hnc, _, _, _⟩
  · omega
  · cases he; exact hnc
theorem CodeAt.one {w : World} {a : Option Addr} {n : Nat} {xs : List Ins} (h : CodeAt w a n xs) (hn : 1 ≤ n) : CodeAt w a 1 (xs.take 1) := by
  have hl := h.1
  refine ⟨by simp; omega, fun i hi => ?_⟩
  have e : (xs.take 1).getD i (0, 0, 0) = xs.getD i (0, 0, 0) := by simp [List.getD, hi]
  rw [e]
  exact h.2 i (by omega)
def nOne : ByteArray := ⟨#[111, 110, 101]⟩
def nTwo : ByteArray := ⟨#[116, 119, 111]⟩
def rPk (l : List ByteArray) (cod : List Ins) : Pk := ⟨l, [⟨nOne, [1, 0], cod⟩, ⟨nTwo, [], cod.take 1⟩]⟩
theorem pB_le2 {f : Phr} (h : okPhr f = true) : (pB f).length ≤ 100 + f.args.length + f.code.length * 20 := by
  unfold okPhr okArgs okCode at h
  simp only [Bool.and_eq_true, decide_eq_true_eq] at h
  obtain ⟨k1, k2, ⟨k3, k4⟩, k5, k6, k7⟩ := h
  have h1 := xB_le (s := f.name) (by omega)
  have h2 := length_uB 8 f.args.length (by omega)
  have h3 := length_uB 8 f.code.length (by omega)
  have h4 : (aB f.args).length = f.args.length := by simp [aB]
  have h5 : (cB f.code).length ≤ f.code.length * 20 := flat_le iB 20 f.code (fun x hx => iB_le (by rw [List.all_eq_true] at k7; exact k7 x hx))
  rw [pB_eq]
  simp only [List.length_append]
  omega
section
variable {l : List ByteArray} {cod : List Ins} (hl : l.length ≤ 20) (hs : ∀ t ∈ l, t.size ≤ 60) (hc1 : 1 ≤ cod.length) (hc60 : cod.length ≤ 60) (hok : ∀ x ∈ cod, okIns x = true)
include hc1 hc60 hok
theorem rOk1 : okPhr ⟨nOne, [1, 0], cod⟩ = true := by
  unfold okPhr okArgs okCode
  simp only [Bool.and_eq_true, decide_eq_true_eq, List.all_eq_true]
  refine ⟨by decide, by decide, ⟨by simp, by decide⟩, hc1, hc60, hok⟩
theorem rOk2 : okPhr ⟨nTwo, [], cod.take 1⟩ = true := by
  unfold okPhr okArgs okCode
  simp only [Bool.and_eq_true, decide_eq_true_eq, List.all_eq_true]
  refine ⟨by decide, by decide, ⟨by simp, by simp⟩, by simp; omega, by simp; omega, fun x hx => hok x (List.mem_of_mem_take hx)⟩
include hl hs
theorem rOk : okPack (rPk l cod) = true := by
  have h1 := rOk1 hc1 hc60 hok
  have h2 := rOk2 hc1 hc60 hok
  have h3 : l.all okStr = true := by rw [List.all_eq_true]; intro x hx; exact decide_eq_true (hs x hx)
  have h4 : decide (nOne = nTwo) = false := by decide
  unfold okPack rPk
  simp only [List.length_cons, List.length_nil, okTo, hasN, List.take_zero, List.any_nil, List.getD_cons_zero, List.getD_cons_succ, List.take_succ_cons, List.any_cons, h1, h2, h3, h4, Nat.zero_add, Nat.reduceAdd, Bool.or_false, Bool.not_false, Bool.and_true]
  simp; omega
theorem rEnc : encOk (rPk l cod) = true := by
  unfold encOk
  rw [rOk hl hs hc1 hc60 hok]
  have h1 := length_uB 8 (rPk l cod).strings.length (by simp [rPk]; omega)
  have h2 := length_uB 8 (rPk l cod).phrases.length (by simp [rPk])
  have h3 : (sB (rPk l cod).strings).length ≤ l.length * 70 := flat_le xB 70 l (fun x hx => xB_le (hs x hx))
  have h6 := pB_le2 (rOk1 hc1 hc60 hok)
  have h7 := pB_le2 (rOk2 hc1 hc60 hok)
  have h4 : (psB (rPk l cod).phrases).length = (pB ⟨nOne, [1, 0], cod⟩).length + (pB ⟨nTwo, [], cod.take 1⟩).length := by simp [psB, rPk]
  have h5 : (sumB (bodyB (rPk l cod))).length = 2 := rfl
  have hb : (packB (rPk l cod)).length ≤ 4000 := by
    unfold packB
    rw [List.length_append, h5]
    unfold bodyB
    simp only [List.length_append, List.length_cons, List.length_nil, List.length_take] at *
    omega
  simp [hb]
end

end Go.Proofs.YtkhenmpdlnhgjaaDoor
