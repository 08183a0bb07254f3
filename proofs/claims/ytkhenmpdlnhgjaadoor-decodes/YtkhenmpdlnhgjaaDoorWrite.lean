import Derived.Test.YtkhenmpdlnhgjaaDoorSum
namespace Go.Proofs.YtkhenmpdlnhgjaaDoor
open Go.RowKit

def sB (l : List ByteArray) : List UInt8 := l.flatMap xB
def psB (l : List Phr) : List UInt8 := l.flatMap pB
/-- The bytes of a pack ahead of the sum. -/
def bodyB (P : Pk) : List UInt8 := [80, 66, 1] ++ uB P.strings.length ++ sB P.strings ++ uB P.phrases.length ++ psB P.phrases
def packB (P : Pk) : List UInt8 := bodyB P ++ sumB (bodyB P)
theorem sB_succ {xs : List ByteArray} {k : Nat} (h : k < xs.length) : sB (xs.take (k + 1)) = sB (xs.take k) ++ xB (xs.getD k ByteArray.empty) := by
  rw [take_succ_getD h (d := ByteArray.empty)]; simp [sB]
theorem psB_succ {xs : List Phr} {k : Nat} (h : k < xs.length) : psB (xs.take (k + 1)) = psB (xs.take k) ++ pB (xs.getD k noPhr) := by
  rw [take_succ_getD h (d := noPhr)]; simp [psB]
theorem sB_le (xs : List ByteArray) (k : Nat) : (sB (xs.take k)).length ≤ (sB xs).length := by
  have h := List.take_append_drop k xs
  have e : sB (xs.take k ++ xs.drop k) = sB (xs.take k) ++ sB (xs.drop k) := by unfold sB; rw [List.flatMap_append]
  rw [h] at e; rw [e, List.length_append]; omega
theorem psB_le (xs : List Phr) (k : Nat) : (psB (xs.take k)).length ≤ (psB xs).length := by
  have h := List.take_append_drop k xs
  have e : psB (xs.take k ++ xs.drop k) = psB (xs.take k) ++ psB (xs.drop k) := by unfold psB; rw [List.flatMap_append]
  rw [h] at e; rw [e, List.length_append]; omega

theorem okTo_all {ps : List Phr} {n : Nat} (h : okTo ps n = true) {k : Nat} (hk : k < n) : okPhr (ps.getD k noPhr) = true := by
  induction n with
  | zero => omega
  | succ n ih =>
    unfold okTo at h
    simp only [Bool.and_eq_true] at h
    by_cases hkn : k = n
    · subst hkn; exact h.2.1
    · exact ih h.1 (by omega)

theorem ba_append (a b : List UInt8) : (⟨a.toArray⟩ : ByteArray) ++ ⟨b.toArray⟩ = ⟨(a ++ b).toArray⟩ := by
  apply ByteArray.ext
  rw [ByteArray.data_append]
  simp
/-- A new row that is called a string's: the place behind its end is frozen. -/
theorem conv_same (w : World) (cs : Array Value) (l c : Nat) : (convert 44 44 (.slice (some ⟨w.heap.size, 0, none⟩) l c)).run Tryd.prog (w.alloc (.cells cs 5)) = .ok (.slice (some ⟨w.heap.size, 0, none⟩) l c) (w.alloc (.cells cs 5 (cs.size, cs.size + 1))) := by
  have hsh : (w.alloc (.cells cs 5)).shape? w.heap.size = some (5, cs.size) := by unfold World.shape?; rw [alloc_heap]
  have hfr : (w.alloc (.cells cs 5)).freeze ⟨w.heap.size, cs.size, none⟩ 1 = w.alloc (.cells cs 5 (cs.size, cs.size + 1)) := by
    unfold World.freeze
    show { w with heap := (w.heap.push (.cells cs 5)).modify w.heap.size _ } = { w with heap := w.heap.push (.cells cs 5 (cs.size, cs.size + 1)) }
    congr 1
    apply Array.ext_getElem?
    intro i
    simp only [Array.getElem?_modify, Array.getElem?_push]
    by_cases h : w.heap.size = i
    · subst h; simp
    · have h' : ¬ i = w.heap.size := fun e => h e.symm
      simp [h, h']
  simp [convert, run_underlying Tryd.underlying44, run_underlying Tryd.underlying5, markStringish, hsh, freeze, Sem.run, hfr]
/-- The head, in a new row. -/
theorem buf_head (w : World) (fr : Nat × Nat) : Buf w.heap.size (w.alloc (.cells #[.int .u8 80, .int .u8 66, .int .u8 1] 5 fr)) (.slice (some ⟨w.heap.size, 0, none⟩) 3 3) [80, 66, 1] :=
  .inr ⟨w.heap.size, fr, rfl, Nat.le_refl _, alloc_heap w _⟩

set_option maxHeartbeats 1000000 in
theorem write_any (sa ap : Option Addr) (ns np cs cp : Nat) (P : Pk) (w : World) (hs : StrsAt w sa ns P.strings) (hp : PhrasesAt w ap np P.phrases) (hok : okPack P = true) (hl : (bodyB P).length ≤ 140737488355000) :
    Calls Tryd.prog 19 #[.agg #[.slice sa ns cs, .slice ap np cp]] w fun e w' => e = .returned (.string ⟨(packB P).toArray⟩) ∧ Ext w w' := by
  have hok' := hok
  unfold okPack at hok'
  simp only [Bool.and_eq_true, decide_eq_true_eq] at hok'
  obtain ⟨k1, k2, k3, k4⟩ := hok'
  rw [hs.1] at k1
  rw [hp.1] at k2 k4
  have HST := hide k3
  have HOT := hide k4
  have HNS := hide hs.1
  have HNP := hide hp.1
  have HB : Hid (bodyB P = [80, 66, 1] ++ uB ns ++ sB P.strings ++ uB np ++ psB P.phrases) := by show _ = _; unfold bodyB; rw [hs.1, hp.1]
  have HL : Hid (3 + (uB ns).length + (sB P.strings).length + (uB np).length + (psB P.phrases).length ≤ 140737488355000) := by
    show _ ≤ _
    rw [HB.out] at hl; simp only [List.length_append, List.length_cons, List.length_nil] at hl; omega
  clear hl hok k3 k4
  go_enter Tryd.func19, Tryd.ntmps19
  have hcv := conv_same (w.alloc (.cells #[.slice sa ns cs, .slice ap np cp] 27)) #[.int .u8 80, .int .u8 66, .int .u8 1] 3 3
  have e1 : (w.alloc (.cells #[.slice sa ns cs, .slice ap np cp] 27)).heap.size = w.heap.size + 1 := by simp
  have e2 : (#[.int .u8 80, .int .u8 66, .int .u8 1] : Array Value).size = 3 := rfl
  rw [e1, e2] at hcv
  clear e1 e2
  go_wp2_with fail
  clear hcv
  obtain ⟨W1, HW⟩ : ∃ W1, Hid (W1 = w.alloc (.cells #[.slice sa ns cs, .slice ap np cp] 27)) := ⟨_, rfl⟩
  have hx1 : Ext w W1 := by rw [HW.out]; exact (Ext.refl w).alloc _
  have hbox : OwnRow W1 w.heap.size [.slice sa ns cs, .slice ap np cp] 27 := by rw [HW.out]; exact OwnRow.alloc w [.slice sa ns cs, .slice ap np cp] 27
  have hsz : W1.heap.size = w.heap.size + 1 := by rw [HW.out]; simp
  have hb1 := buf_head W1 (3, 4)
  have hx2 := (Ext.refl W1).alloc (.cells #[.int .u8 80, .int .u8 66, .int .u8 1] 5 (3, 4))
  rw [← HW.out]
  rw [hsz] at hb1
  have hB : w.heap.size + 1 ≤ (W1.alloc (.cells #[.int .u8 80, .int .u8 66, .int .u8 1] 5 (3, 4))).heap.size := by simp [hsz]
  refine (addNumber_any (w.heap.size + 1) _ _ ns _ hb1 hB (by omega) (by simp only [List.length_cons, List.length_nil]; have := HL.out; omega)).mono ?_
  rintro e w1 ⟨v1, rfl, hb2, ho2⟩
  have hbel : Below (w.heap.size + 1) W1 w1 := (Below.mono hx2 (by omega)).trans (hb1.below ho2 hB)
  have hbx1 : OwnRow w1 w.heap.size [.slice sa ns cs, .slice ap np cp] 27 := hbox.below hbel (by omega)
  have hB1 : w.heap.size + 1 ≤ w1.heap.size := Nat.le_trans hB ho2.grown.size
  have hc0 : w1.cell? ⟨w.heap.size, 0, none⟩ = some (.slice sa ns cs) := hbx1.cell 0
  clear hb1 ho2 hB hx2 hbx1
  go_wp2_with fail
  clear hc0
  have hsz' := hide hsz
  clear hsz
  go_loopw [3, 19] (fun b i wr => ∃ k : Nat, k ≤ ns ∧ i = .int .i64 k ∧ Buf (w.heap.size + 1) wr b ([80, 66, 1] ++ uB ns ++ sB (P.strings.take k)) ∧ Below (w.heap.size + 1) W1 wr ∧ w.heap.size + 1 ≤ wr.heap.size) (fun _ i _ => ns - (intOf i).toNat)
  case atStart => exact ⟨0, Nat.zero_le _, rfl, by simpa [sB] using hb2, hbel, hB1⟩
  case round =>
    obtain ⟨k, hk, rfl, hbuf, hbl, hBr⟩ := hrel
    clear hbel hB1 hb2
    have hxr : Ext w wr := hx1.trans (show Below W1.heap.size W1 wr by rw [hsz'.out]; exact hbl)
    by_cases hlt : k < ns
    · obtain ⟨b, o, rfl, hcell⟩ := (hs.ext hxr).2 k hlt
      have HK : Hid (k < P.strings.length) := by show _ < _; rw [HNS.out]; exact hlt
      have hsk : (P.strings.getD k ByteArray.empty).size ≤ 60 := by
        have := HST.out
        rw [List.all_eq_true] at this
        have h := this _ (by have := HK.out; simp [List.getD, this] : P.strings.getD k ByteArray.empty ∈ P.strings)
        simpa [okStr] using h
      have HN := hide (sB_succ HK.out)
      generalize P.strings.getD k ByteArray.empty = x at hcell hsk HN
      go_wp2_with fail
      refine (addText_any (w.heap.size + 1) _ _ x wr hbuf hBr (by omega) (by
        have h1 := HL.out
        have h2 := sB_le P.strings (k + 1)
        rw [HN.out] at h2
        simp only [List.length_append, List.length_cons, List.length_nil] at h2 ⊢; omega)).mono ?_
      rintro e w2 ⟨v2, rfl, hb2, ho2⟩
      go_wp2_with fail
      go_roundw
      case rel =>
        exact ⟨k + 1, by omega, by go_num, by rw [HN.out, ← List.append_assoc]; exact hb2, hbl.trans (hbuf.below ho2 hBr), Nat.le_trans hBr ho2.grown.size⟩
      case measure => simp [intOf]; omega
    · have hkn : k = ns := by omega
      subst hkn
      have HT : Hid (P.strings.take k = P.strings) := List.take_of_length_le (by rw [HNS.out]; omega)
      rw [HT.out] at hbuf
      have hc1 : wr.cell? ⟨w.heap.size, 1, none⟩ = some (.slice ap np cp) := (hbox.below hbl (by omega)).cell 1
      go_wp2_with fail
      refine (addNumber_any (w.heap.size + 1) _ _ np wr hbuf hBr (by omega) (by simp only [List.length_append, List.length_cons, List.length_nil]; have := HL.out; omega)).mono ?_
      rintro e w3 ⟨v3, rfl, hb3, ho3⟩
      have hbl3 := hbl.trans (hbuf.below ho3 hBr)
      have hB3 := Nat.le_trans hBr ho3.grown.size
      have hc2 : w3.cell? ⟨w.heap.size, 1, none⟩ = some (.slice ap np cp) := (hbox.below hbl3 (by omega)).cell 1
      clear hc1 hbuf ho3 hbl hBr hxr HT
      go_wp2_with fail
      clear hc2
      go_loopw [3, 35] (fun b i wr => ∃ k' : Nat, k' ≤ np ∧ i = .int .i64 k' ∧ Buf (w.heap.size + 1) wr b ([80, 66, 1] ++ uB k ++ sB P.strings ++ uB np ++ psB (P.phrases.take k')) ∧ Below (w.heap.size + 1) W1 wr ∧ w.heap.size + 1 ≤ wr.heap.size) (fun _ i _ => np - (intOf i).toNat)
      case atStart => exact ⟨0, Nat.zero_le _, rfl, by simpa [psB] using hb3, hbl3, hB3⟩
      case round =>
        obtain ⟨j, hj, rfl, hbuf, hbl, hBr⟩ := hrel
        clear hbl3 hB3 hb3
        have hxr : Ext w wr := hx1.trans (show Below W1.heap.size W1 wr by rw [hsz'.out]; exact hbl)
        by_cases hlj : j < np
        · obtain ⟨b, o, rfl, hph⟩ := hp.2 j hlj
          obtain ⟨aa, ca, ac, cc, hc0, hc1, hc2, hia, hca, hla, hlc, hnm⟩ := hph
          have HK : Hid (j < P.phrases.length) := by show _ < _; rw [HNP.out]; exact hlj
          have hokf := okTo_all HOT.out hlj
          have HN := hide (psB_succ HK.out)
          have hd0 := hxr.cell hc0
          have hd1 := hxr.cell hc1
          have hd2 := hxr.cell hc2
          generalize P.phrases.getD j noPhr = f at hd0 hd1 hd2 hia hca hla hlc hnm HN hokf
          have HOK := hide hokf
          clear hc0 hc1 hc2 hokf
          go_wp2_with fail
          obtain ⟨W2, HW2⟩ : ∃ W2, Hid (W2 = wr.alloc (.cells #[.string f.name, .slice aa f.args.length ca, .slice ac f.code.length cc] 41)) := ⟨_, rfl⟩
          have hx3 : Ext wr W2 := by rw [HW2.out]; exact (Ext.refl wr).alloc _
          rw [← HW2.out]
          have hB2 : w.heap.size + 1 ≤ W2.heap.size := Nat.le_trans hBr hx3.size
          have hall : ∀ w', Below (w.heap.size + 1) W2 w' → Ext w w' := fun w' hw' => hx1.trans (show Below W1.heap.size W1 w' by rw [hsz'.out]; exact (hbl.trans (Below.mono hx3 hBr)).trans hw')
          refine (addPhrase_any (w.heap.size + 1) _ _ aa ac ca cc f W2 (hbuf.ext hx3) hB2 (fun w' hw' => hia.ext (hall w' hw')) (fun w' hw' => hca.ext (hall w' hw')) HOK.out (by
            have h1 := HL.out
            have h2 := psB_le P.phrases (j + 1)
            rw [HN.out] at h2
            simp only [List.length_append, List.length_cons, List.length_nil] at h2 ⊢; omega)).mono ?_
          rintro e w4 ⟨v4, rfl, hb4, ho4⟩
          go_wp2_with fail
          go_roundw
          case rel =>
            exact ⟨j + 1, by omega, by go_num, by rw [HN.out, ← List.append_assoc]; exact hb4, (hbl.trans (Below.mono hx3 hBr)).trans ((hbuf.ext hx3).below ho4 hB2), Nat.le_trans hB2 ho4.grown.size⟩
          case measure => simp [intOf]; omega
        · have hkn : j = np := by omega
          subst hkn
          have HT : Hid (P.phrases.take j = P.phrases) := List.take_of_length_le (by rw [HNP.out]; omega)
          rw [HT.out, ← HB.out] at hbuf
          have hcv := conv_buf hbuf
          have HPB : Hid (packB P = bodyB P ++ sumB (bodyB P)) := rfl
          have HLB : Hid ((bodyB P).length ≤ 140737488355000) := by
            show _ ≤ _
            rw [HB.out]; have := HL.out; simp only [List.length_append, List.length_cons, List.length_nil]; omega
          have hsm : ¬ 9223372036854775807 < (bodyB P).length + (sumB (bodyB P)).length := by have := HLB.out; simp [sumB]; omega
          generalize bodyB P = body at hcv HPB HLB hbuf hsm
          go_wp2_with fail
          refine (sum_any _ _ (by simp [ByteArray.size]; have := HLB.out; omega)).mono ?_
          rintro e w5 ⟨rfl, he5⟩
          go_wp2_with fail
          go_ret
          exact ⟨by rw [HPB.out, ← ba_append]; rfl, hxr.trans he5⟩

end Go.Proofs.YtkhenmpdlnhgjaaDoor
