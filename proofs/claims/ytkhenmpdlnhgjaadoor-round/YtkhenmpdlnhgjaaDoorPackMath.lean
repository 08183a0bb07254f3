import Derived.Test.YtkhenmpdlnhgjaaDoorRead
import Derived.Test.YtkhenmpdlnhgjaaDoorWrite
namespace Go.Proofs.YtkhenmpdlnhgjaaDoor
open Go.RowKit

theorem ofNat_toNat8 (b : UInt8) : UInt8.ofNat b.toNat = b := by simp
theorem numF_sound : ∀ (f i n : Nat) (bs : List UInt8) (v : Nat) (r : List UInt8), numF f i n bs = some (v, r) → ∃ m, v = n + m * 128 ^ i ∧ bs = uB m ++ r ∧ (0 < i → 0 < m)
  | 0, _, _, _, _, _, h => by simp [numF] at h
  | _ + 1, _, _, [], _, _, h => by simp [numF] at h
  | f + 1, i, n, b :: t, v, r, h => by
    have hb := b.toNat_lt
    unfold numF at h
    split at h
    · next h127 =>
      obtain ⟨m', hv, ht, hm⟩ := numF_sound f _ _ _ _ _ h
      have hm' := hm (by omega)
      refine ⟨b.toNat % 128 + 128 * m', ?_, ?_, fun _ => by omega⟩
      · rw [hv, Nat.pow_succ, Nat.add_mul, Nat.add_assoc]
        congr 2
        rw [Nat.mul_comm (128 ^ i) 128, ← Nat.mul_assoc, Nat.mul_comm m' 128]
      · rw [uB_ge (by omega), show (b.toNat % 128 + 128 * m') % 128 = b.toNat % 128 by omega, show (b.toNat % 128 + 128 * m') / 128 = m' by omega, show 128 + b.toNat % 128 = b.toNat by omega, ofNat_toNat8, ht]
        rfl
    · next h127 =>
      split at h
      · simp at h
      · next hok =>
        simp only [Option.some.injEq, Prod.mk.injEq] at h
        refine ⟨b.toNat, h.1.symm, ?_, fun hi => by omega⟩
        rw [uB_lt (by omega), ofNat_toNat8, ← h.2]
        rfl
theorem numF_small (f i n m : Nat) (r : List UInt8) (h : m < 128) (hv : n + m * 128 ^ i ≤ 2147483647) (hi : 0 < i → 0 < m) : numF (f + 1) i n (uB m ++ r) = some (n + m * 128 ^ i, r) := by
  rw [uB_lt h]
  have e : (UInt8.ofNat m).toNat = m := by simp; omega
  show numF (f + 1) i n (UInt8.ofNat m :: r) = _
  unfold numF
  rw [e, if_neg (by omega), if_neg (by omega)]
theorem numF_complete (f : Nat) : ∀ (i n m : Nat) (r : List UInt8), m < 128 ^ (f + 1) → n + m * 128 ^ i ≤ 2147483647 → (0 < i → 0 < m) → numF (f + 1) i n (uB m ++ r) = some (n + m * 128 ^ i, r) := by
  induction f with
  | zero => intro i n m r hm hv hi; exact numF_small 0 i n m r (by simpa using hm) hv hi
  | succ f ih =>
    intro i n m r hm hv hi
    by_cases h : m < 128
    · exact numF_small (f + 1) i n m r h hv hi
    · rw [uB_ge h]
      have e : (UInt8.ofNat (128 + m % 128)).toNat = 128 + m % 128 := by simp; omega
      show numF (f + 1 + 1) i n (UInt8.ofNat (128 + m % 128) :: (uB (m / 128) ++ r)) = _
      unfold numF
      rw [e, if_pos (by omega), show (128 + m % 128) % 128 = m % 128 by omega]
      have key : n + m % 128 * 128 ^ i + m / 128 * 128 ^ (i + 1) = n + m * 128 ^ i := by
        rw [Nat.pow_succ, Nat.add_assoc, Nat.mul_comm (128 ^ i) 128, ← Nat.mul_assoc, ← Nat.add_mul]
        congr 2
        omega
      have hlt : m / 128 < 128 ^ (f + 1) := by rw [Nat.div_lt_iff_lt_mul (by omega)]; rw [Nat.pow_succ] at hm; exact hm
      rw [ih (i + 1) (n + m % 128 * 128 ^ i) (m / 128) r hlt (by rw [key]; exact hv) (fun _ => by omega), key]
theorem pNum_sound {bs r : List UInt8} {n : Nat} (h : pNum bs = some (n, r)) : bs = uB n ++ r := by
  obtain ⟨m, h1, h2, _⟩ := numF_sound _ _ _ _ _ _ h
  have : n = m := by simpa using h1
  rw [this]; exact h2
theorem pNum_complete {n : Nat} (hn : n ≤ 2147483647) (r : List UInt8) : pNum (uB n ++ r) = some (n, r) := by
  have := numF_complete 4 0 0 n r (by omega) (by simpa using hn) (by omega)
  simpa [pNum] using this
theorem pText_sound {bs r : List UInt8} {s : ByteArray} (h : pText bs = some (s, r)) : bs = xB s ++ r := by
  unfold pText at h
  obtain ⟨⟨n, t⟩, hn, h⟩ := Option.bind_eq_some_iff.1 h
  obtain ⟨⟨a, b⟩, hy, h⟩ := Option.map_eq_some_iff.1 h
  simp only [Prod.mk.injEq] at h
  obtain ⟨rfl, rfl⟩ := h
  unfold pTake at hy
  split at hy
  · next hle =>
    simp only [Option.some.injEq, Prod.mk.injEq] at hy
    obtain ⟨rfl, rfl⟩ := hy
    simp only at hle
    rw [pNum_sound hn]
    unfold xB
    have e : (⟨(t.take n).toArray⟩ : ByteArray).size = n := by simp [ByteArray.size]; omega
    rw [e]
    simp
  · simp at hy
theorem pText_complete {s : ByteArray} (hs : s.size ≤ 2147483647) (r : List UInt8) : pText (xB s ++ r) = some (s, r) := by
  unfold pText xB
  rw [List.append_assoc, pNum_complete hs]
  have e : s.data.toList.length = s.size := rfl
  simp only [Option.bind_some, pTake]
  rw [if_pos (by rw [List.length_append]; omega)]
  rw [List.take_left' e, List.drop_left' e]
  simp
theorem pKind_sound {bs r : List UInt8} {k : Int} (h : pKind bs = some (k, r)) : bs = [UInt8.ofNat k.toNat] ++ r := by
  cases bs with
  | nil => simp [pKind, pOct] at h
  | cons b t =>
    simp only [pKind, pOct, Option.map_some, Option.some.injEq, Prod.mk.injEq] at h
    obtain ⟨rfl, rfl⟩ := h
    simp
theorem pKind_complete {k : Int} (h0 : 0 ≤ k) (h : k ≤ 255) (r : List UInt8) : pKind ([UInt8.ofNat k.toNat] ++ r) = some (k, r) := by
  have e : (UInt8.ofNat k.toNat).toNat = k.toNat := by simp; omega
  show some (((UInt8.ofNat k.toNat).toNat : Int), r) = _
  rw [e]; simp; omega
theorem pIns_sound {bs r : List UInt8} {x : Ins} (h : pIns bs = some (x, r)) : bs = iB x ++ r := by
  unfold pIns at h
  obtain ⟨⟨a, t⟩, ha, h⟩ := Option.bind_eq_some_iff.1 h
  obtain ⟨⟨b, t1⟩, hb, h⟩ := Option.bind_eq_some_iff.1 h
  obtain ⟨⟨c, t2⟩, hc, h⟩ := Option.map_eq_some_iff.1 h
  simp only [Prod.mk.injEq] at h hb hc
  obtain ⟨rfl, rfl⟩ := h
  cases bs with
  | nil => simp [pOct] at ha
  | cons b0 t0 =>
    simp only [pOct, Option.some.injEq, Prod.mk.injEq] at ha
    obtain ⟨rfl, rfl⟩ := ha
    rw [pNum_sound hb, pNum_sound hc]
    simp [iB]
theorem pIns_complete {x : Ins} (h : okIns x = true) (r : List UInt8) : pIns (iB x ++ r) = some (x, r) := by
  obtain ⟨h0, h1, h2⟩ := okIns_yes h
  have b0 := fit_bd h0
  have b1 := fit_bd h1
  have b2 := fit_bd h2
  obtain ⟨x0, x1, x2⟩ := x
  simp only at b0 b1 b2
  have e : (UInt8.ofNat x0.toNat).toNat = x0.toNat := by simp; omega
  unfold pIns iB
  show ((pOct (UInt8.ofNat x0.toNat :: (uB x1.toNat ++ uB x2.toNat ++ r))).bind _) = _
  simp only [pOct, Option.bind_some, e]
  rw [List.append_assoc, pNum_complete (by omega)]
  simp only [Option.bind_some]
  rw [pNum_complete (by omega)]
  simp
  omega
theorem pMany_sound {α : Type} {item : List UInt8 → Option (α × List UInt8)} {enc : α → List UInt8} (hi : ∀ bs x r, item bs = some (x, r) → bs = enc x ++ r) : ∀ (n : Nat) (bs : List UInt8) (xs : List α) (r : List UInt8), pMany item n bs = some (xs, r) → bs = xs.flatMap enc ++ r
  | 0, bs, xs, r, h => by simp only [pMany, Option.some.injEq, Prod.mk.injEq] at h; obtain ⟨rfl, rfl⟩ := h; simp
  | n + 1, bs, xs, r, h => by
    unfold pMany at h
    obtain ⟨⟨a, t⟩, ha, h⟩ := Option.bind_eq_some_iff.1 h
    obtain ⟨⟨b, t1⟩, hb, h⟩ := Option.map_eq_some_iff.1 h
    simp only [Prod.mk.injEq] at h hb
    obtain ⟨rfl, rfl⟩ := h
    rw [pMany_sound hi n bs a t ha, hi _ _ _ hb]
    simp
theorem pMany_complete {α : Type} {item : List UInt8 → Option (α × List UInt8)} {enc : α → List UInt8} : ∀ (n : Nat) (xs : List α), xs.length = n → (∀ x ∈ xs, ∀ r, item (enc x ++ r) = some (x, r)) → ∀ r, pMany item n (xs.flatMap enc ++ r) = some (xs, r)
  | 0, xs, hl, _, r => by
    have : xs = [] := List.eq_nil_of_length_eq_zero hl
    subst this; rfl
  | n + 1, xs, hl, hx, r => by
    rcases List.eq_nil_or_concat xs with rfl | ⟨ys, y, hys⟩
    · simp at hl
    · rw [List.concat_eq_append] at hys
      subst hys
      have hy : ys.length = n := by simpa using hl
      unfold pMany
      have e : (ys ++ [y]).flatMap enc ++ r = ys.flatMap enc ++ (enc y ++ r) := by simp
      rw [e, pMany_complete n ys hy (fun x h => hx x (by simp [h])) (enc y ++ r)]
      simp only [Option.bind_some]
      rw [hx y (by simp) r]
      rfl
theorem pList_sound {α : Type} {item : List UInt8 → Option (α × List UInt8)} {enc : α → List UInt8} (hi : ∀ bs x r, item bs = some (x, r) → bs = enc x ++ r) {bs : List UInt8} {xs : List α} {r : List UInt8} (h : pList item bs = some (xs, r)) : bs = uB xs.length ++ xs.flatMap enc ++ r := by
  unfold pList at h
  obtain ⟨⟨n, t⟩, hn, h⟩ := Option.bind_eq_some_iff.1 h
  simp only at h
  have hl := pMany_len _ _ _ h
  simp only at hl
  rw [pNum_sound hn, pMany_sound hi _ _ _ _ h, hl]
  simp
theorem pList_complete {α : Type} {item : List UInt8 → Option (α × List UInt8)} {enc : α → List UInt8} {xs : List α} (hx : ∀ x ∈ xs, ∀ r, item (enc x ++ r) = some (x, r)) (hl : xs.length ≤ 2147483647) (r : List UInt8) : pList item (uB xs.length ++ xs.flatMap enc ++ r) = some (xs, r) := by
  unfold pList
  rw [List.append_assoc, pNum_complete hl]
  exact pMany_complete _ xs rfl hx r
theorem aB_flat (xs : List Int) : xs.flatMap (fun k => [UInt8.ofNat k.toNat]) = aB xs := by
  induction xs with
  | nil => rfl
  | cons x xs ih => simp only [List.flatMap_cons, ih]; rfl
theorem pPhr_sound {bs r : List UInt8} {f : Phr} (h : pPhr bs = some (f, r)) : bs = pB f ++ r := by
  unfold pPhr at h
  obtain ⟨⟨a, t⟩, ha, h⟩ := Option.bind_eq_some_iff.1 h
  obtain ⟨⟨b, t1⟩, hb, h⟩ := Option.bind_eq_some_iff.1 h
  obtain ⟨⟨c, t2⟩, hc, h⟩ := Option.map_eq_some_iff.1 h
  simp only [Prod.mk.injEq] at h hb hc
  obtain ⟨rfl, rfl⟩ := h
  rw [pText_sound ha, pList_sound (enc := fun k => [UInt8.ofNat k.toNat]) (fun bs x r h => pKind_sound h) hb, pList_sound (enc := iB) (fun bs x r h => pIns_sound h) hc, aB_flat]
  unfold pB cB
  simp
theorem pPhr_complete {f : Phr} (h : okPhr f = true) (r : List UInt8) : pPhr (pB f ++ r) = some (f, r) := by
  unfold okPhr okArgs okCode at h
  simp only [Bool.and_eq_true, decide_eq_true_eq] at h
  obtain ⟨k1, k2, ⟨k3, k4⟩, k5, k6, k7⟩ := h
  unfold pPhr pB
  have e : xB f.name ++ (uB f.args.length ++ (aB f.args ++ (uB f.code.length ++ cB f.code))) ++ r = xB f.name ++ (uB f.args.length ++ f.args.flatMap (fun k => [UInt8.ofNat k.toNat]) ++ (uB f.code.length ++ f.code.flatMap iB ++ r)) := by rw [aB_flat]; unfold cB; simp
  rw [e, pText_complete (by omega)]
  simp only [Option.bind_some]
  rw [pList_complete (fun k hk r => by
    rw [List.all_eq_true] at k4
    have := fit_bd (k4 k hk)
    exact pKind_complete this.1 (by omega) r) (by omega)]
  simp only [Option.bind_some]
  rw [pList_complete (fun x hx r => by
    rw [List.all_eq_true] at k7
    exact pIns_complete (k7 x hx) r) (by omega)]
  rfl
theorem pSeal_sound {bs body : List UInt8} (h : pSeal bs = some body) : bs = body ++ sumB body := by
  unfold pSeal at h
  split at h
  · next hh =>
    simp only [Option.some.injEq] at h
    subst h
    rw [← hh.2, List.take_append_drop]
  · simp at h
theorem pSeal_complete (body : List UInt8) : pSeal (body ++ sumB body) = some body := by
  have hl : (sumB body).length = 2 := rfl
  have e : (body ++ sumB body).length - 2 = body.length := by rw [List.length_append, hl]; omega
  unfold pSeal
  rw [e, List.take_left' rfl, List.drop_left' rfl, if_pos ⟨by rw [List.length_append, hl]; omega, rfl⟩]
theorem pPack_sound {bs : List UInt8} {P : Pk} (h : pPack bs = some P) : okPack P = true ∧ packB P = bs := by
  unfold pPack at h
  obtain ⟨body, hS, h⟩ := Option.bind_eq_some_iff.1 h
  obtain ⟨⟨hd, t⟩, hT, h⟩ := Option.bind_eq_some_iff.1 h
  simp only at h
  split at h
  · next hh =>
    obtain ⟨⟨ss, t1⟩, hs, h⟩ := Option.bind_eq_some_iff.1 h
    obtain ⟨⟨ps, t2⟩, hp, h⟩ := Option.bind_eq_some_iff.1 h
    simp only at h hp
    split at h
    · next hok =>
      simp only [Option.some.injEq] at h
      subst h
      refine ⟨hok.2, ?_⟩
      obtain ⟨rfl, _⟩ := hok
      have hb : body = hd ++ t := by
        unfold pTake at hT
        split at hT
        · simp only [Option.some.injEq, Prod.mk.injEq] at hT
          rw [← hT.1, ← hT.2, List.take_append_drop]
        · simp at hT
      have h1 := pList_sound (enc := xB) (fun bs x r h => pText_sound h) hs
      have h2 := pList_sound (enc := pB) (fun bs x r h => pPhr_sound h) hp
      have hbody : bodyB ⟨ss, ps⟩ = body := by
        rw [hb, hh, h1, h2]
        unfold bodyB sB psB
        simp
      unfold packB
      rw [hbody]
      exact (pSeal_sound hS).symm
    · simp at h
  · simp at h
theorem pPack_complete {P : Pk} (h : okPack P = true) : pPack (packB P) = some P := by
  have h' := h
  unfold okPack at h'
  simp only [Bool.and_eq_true, decide_eq_true_eq] at h'
  obtain ⟨k1, k2, k3, k4⟩ := h'
  have hbody : bodyB P = [80, 66, 1] ++ (uB P.strings.length ++ P.strings.flatMap xB ++ (uB P.phrases.length ++ P.phrases.flatMap pB ++ [])) := by unfold bodyB sB psB; simp
  unfold pPack packB
  rw [pSeal_complete]
  simp only [Option.bind_some, pTake]
  rw [if_pos (by rw [hbody]; simp)]
  simp only [Option.bind_some]
  have ht : (bodyB P).take 3 = [80, 66, 1] := by rw [hbody]; rfl
  have hd : (bodyB P).drop 3 = uB P.strings.length ++ P.strings.flatMap xB ++ (uB P.phrases.length ++ P.phrases.flatMap pB ++ []) := by rw [hbody]; rfl
  rw [if_pos ht, hd, pList_complete (fun s hs r => by
    rw [List.all_eq_true] at k3
    have := k3 s hs
    exact pText_complete (by have := of_decide_eq_true this; omega) r) (by omega)]
  simp only [Option.bind_some]
  rw [pList_complete (fun f hf r => by
    obtain ⟨i, hi, rfl⟩ := List.getElem_of_mem hf
    have := okTo_all k4 hi
    have e : P.phrases.getD i noPhr = P.phrases[i] := by simp [List.getD, hi]
    rw [e] at this
    exact pPhr_complete this r) (by omega)]
  simp only [Option.bind_some]
  rw [if_pos ⟨trivial, h⟩]

end Go.Proofs.YtkhenmpdlnhgjaaDoor
