import Derived.Test.YtkhenmpdlnhgjaaDoorUn3
namespace Go.Proofs.YtkhenmpdlnhgjaaDoor
open Go.RowKit

theorem lF_of_numF (most : Nat) : ∀ (f i n : Nat) (bs : List UInt8) (v : Nat) (r : List UInt8), numF f i n bs = some (v, r) → v ≤ most → lF most f i n bs = some (v, r)
  | 0, _, _, _, _, _, h, _ => by simp [numF] at h
  | _ + 1, _, _, [], _, _, h, _ => by simp [numF] at h
  | f + 1, i, n, b :: bs, v, r, h, hv => by
    unfold numF at h
    unfold lF
    by_cases hb : 127 < b.toNat
    · rw [if_pos hb] at h
      rw [if_neg (by omega)]
      exact lF_of_numF most f _ _ bs v r h hv
    · rw [if_neg hb] at h
      rw [if_pos (by omega), Nat.mod_eq_of_lt (show b.toNat < 128 by omega)]
      split at h
      · simp at h
      · simp only [Option.some.injEq, Prod.mk.injEq] at h
        obtain ⟨rfl, rfl⟩ := h
        rw [if_neg (by omega)]
theorem lNum_complete {most n : Nat} (hn : n ≤ most) (hm : most ≤ 2147483647) (r : List UInt8) : lNum most (uB n ++ r) = some (n, r) :=
  lF_of_numF most 5 0 0 _ n r (pNum_complete (by omega) r) hn
theorem lText_complete {most : Nat} {s : ByteArray} (hs : s.size ≤ most) (hm : most ≤ 2147483647) (r : List UInt8) : lText most (xB s ++ r) = some (s, r) := by
  have h := pText_complete (s := s) (by omega) r
  unfold pText at h
  unfold lText
  have e : xB s ++ r = uB s.size ++ (s.data.toList ++ r) := by unfold xB; simp
  rw [e, pNum_complete (by omega)] at h
  rw [e, lNum_complete hs hm]
  exact h
theorem lIns_complete {x : Ins} (h : okIns x = true) (r : List UInt8) : lIns (iB x ++ r) = some (x, r) := by
  have hp := pIns_complete h r
  unfold okIns at h
  simp only [Bool.and_eq_true] at h
  obtain ⟨_, h2, h3⟩ := h
  have b2 := fit_bd h2
  have b3 := fit_bd h3
  unfold pIns at hp
  unfold lIns
  have e : iB x ++ r = UInt8.ofNat x.1.toNat :: (uB x.2.1.toNat ++ (uB x.2.2.toNat ++ r)) := by unfold iB; simp
  rw [e] at hp ⊢
  simp only [pOct, Option.bind_some] at hp ⊢
  rw [pNum_complete (by omega)] at hp
  rw [lNum_complete (by omega) (by omega)]
  simp only [Option.bind_some] at hp ⊢
  rw [pNum_complete (by omega)] at hp
  rw [lNum_complete (by omega) (by omega)]
  exact hp
theorem lList_complete {α : Type} {most : Nat} {item : List UInt8 → Option (α × List UInt8)} {enc : α → List UInt8} {xs : List α} (hx : ∀ x ∈ xs, ∀ r, item (enc x ++ r) = some (x, r)) (hl : xs.length ≤ most) (hm : most ≤ 2147483647) (r : List UInt8) : lList most item (uB xs.length ++ xs.flatMap enc ++ r) = some (xs, r) := by
  unfold lList
  rw [List.append_assoc, lNum_complete hl hm]
  exact pMany_complete _ xs rfl hx r
theorem lPhr_complete {f : Phr} (h : okPhr f = true) (r : List UInt8) : lPhr (pB f ++ r) = some (f, r) := by
  unfold okPhr okArgs okCode at h
  simp only [Bool.and_eq_true, decide_eq_true_eq] at h
  obtain ⟨k1, k2, ⟨k3, k4⟩, k5, k6, k7⟩ := h
  unfold lPhr pB
  have e : xB f.name ++ (uB f.args.length ++ (aB f.args ++ (uB f.code.length ++ cB f.code))) ++ r = xB f.name ++ (uB f.args.length ++ f.args.flatMap (fun k => [UInt8.ofNat k.toNat]) ++ (uB f.code.length ++ f.code.flatMap iB ++ r)) := by rw [aB_flat]; unfold cB; simp
  rw [e, lText_complete (by omega) (by omega)]
  simp only [Option.bind_some]
  rw [lList_complete (fun k hk r => by
    rw [List.all_eq_true] at k4
    have := fit_bd (k4 k hk)
    exact pKind_complete this.1 (by omega) r) (by omega) (by omega)]
  simp only [Option.bind_some]
  rw [lList_complete (fun x hx r => by
    rw [List.all_eq_true] at k7
    exact lIns_complete (k7 x hx) r) (by omega) (by omega)]
  rfl
theorem lPack_complete {P : Pk} (h : okPack P = true) : lPack ((packB P).drop 3) = some (P, sumB (bodyB P)) := by
  unfold okPack at h
  simp only [Bool.and_eq_true, decide_eq_true_eq] at h
  obtain ⟨k1, k2, k3, k4⟩ := h
  have hd : (packB P).drop 3 = uB P.strings.length ++ P.strings.flatMap xB ++ (uB P.phrases.length ++ P.phrases.flatMap pB ++ sumB (bodyB P)) := by
    have : packB P = [80, 66, 1] ++ (uB P.strings.length ++ P.strings.flatMap xB ++ (uB P.phrases.length ++ P.phrases.flatMap pB ++ sumB (bodyB P))) := by
      unfold packB
      generalize sumB (bodyB P) = z
      unfold bodyB sB psB; simp
    rw [this]; rfl
  rw [hd]
  unfold lPack
  rw [lList_complete (fun s hs r => by
    rw [List.all_eq_true] at k3
    have := k3 s hs
    exact lText_complete (of_decide_eq_true this) (by omega) r) (by omega) (by omega)]
  simp only [Option.bind_some]
  rw [lList_complete (fun f hf r => by
    obtain ⟨i, hi, rfl⟩ := List.getElem_of_mem hf
    have := okTo_all k4 hi
    have e : P.phrases.getD i noPhr = P.phrases[i] := by simp [List.getD, hi]
    rw [e] at this
    exact lPhr_complete this r) (by omega) (by omega)]
  rfl
/-- The document's reader and the program's come to the same. -/
theorem unp_eq (s : ByteArray) : unp s = pPack s.data.toList := by
  cases hp : pPack s.data.toList with
  | some P =>
    obtain ⟨h1, h2⟩ := pPack_sound hp
    unfold unp
    rw [← h2, lPack_complete h1]
    simp [h1]
  | none =>
    cases hu : unp s with
    | none => rfl
    | some P =>
      unfold unp at hu
      obtain ⟨⟨Q, r⟩, _, h⟩ := Option.bind_eq_some_iff.1 hu
      simp only at h
      split at h
      · next hh =>
        simp only [Option.some.injEq] at h
        subst h
        have := pPack_complete hh.1
        rw [hh.2, hp] at this
        simp at this
      · simp at h

end Go.Proofs.YtkhenmpdlnhgjaaDoor
