import Derived.Test.YtkhenmpdlnhgjaaDoorUn2
import Derived.Test.YtkhenmpdlnhgjaaDoorPackMath
import Derived.Test.YtkhenmpdlnhgjaaDoorFace
import Derived.Test.YtkhenmpdlnhgjaaDoorEnc
import Derived.Deep.DeepCutAuto
import Derived.Deep.CutBlock
namespace Go.Proofs.YtkhenmpdlnhgjaaDoor
open Go.RowKit

theorem rowGrown {w w' : World} {n : Nat} {D : List Value} {t : TypeId} {row : Option Nat} (h : OwnRow w n D t) (k : w.grownBy w' row) (hne : row ≠ some n) : OwnRow w' n D t := by
  unfold OwnRow; rw [k.block n h.lt (fun e => hne e.symm)]; exact h
theorem SP.ext {w w' : World} {g : Nat} {s : ByteArray} {st : Option (List UInt8)} (h : SP w g s st) (k : Ext w w') : SP w' g s st := by
  obtain ⟨n, h1, h2, h3⟩ := h
  exact ⟨n, h1, OwnRow.ext h2 k, h3⟩
theorem SP.grown {w w' : World} {g : Nat} {s : ByteArray} {st : Option (List UInt8)} {row : Option Nat} (h : SP w g s st) (k : w.grownBy w' row) (hne : row ≠ some g) : SP w' g s st := by
  obtain ⟨n, h1, h2, h3⟩ := h
  exact ⟨n, h1, rowGrown h2 k hne, h3⟩
theorem SP.other {w : World} {g b : Nat} {s : ByteArray} {st : Option (List UInt8)} (h : SP w g s st) (hb : b ≠ g) (i : Nat) (v : Value) : SP (w.setCell ⟨b, i, none⟩ v) g s st := by
  obtain ⟨n, h1, h2, h3⟩ := h
  exact ⟨n, h1, OwnRow.other h2 hb _ _, h3⟩
theorem SP.lt {w : World} {g : Nat} {s : ByteArray} {st : Option (List UInt8)} (h : SP w g s st) : g < w.heap.size := by
  obtain ⟨n, h1, h2, h3⟩ := h
  exact OwnRow.lt h2
theorem SP.flag {w : World} {g : Nat} {s : ByteArray} {st : Option (List UInt8)} (h : SP w g s st) : w.cell? ⟨g, 2, none⟩ = some (.bool st.isNone) := by
  obtain ⟨n, h1, h2, h3⟩ := h
  exact OwnRow.cell h2 2
theorem Ext.grown {a b c : World} {row : Option Nat} (h : Ext a b) (k : b.grownBy c row) (hr : ∀ n, row = some n → a.heap.size ≤ n) : Ext a c :=
  ⟨k.os.trans h.os, k.tape.trans h.tape, k.output.trans h.output, Nat.le_trans h.size k.size, fun i hi => (k.block i (Nat.lt_of_lt_of_le hi h.size) (fun e => by have := hr i e.symm; omega)).trans (h.block i hi)⟩

/-- What lies there while a pack is being read: the answer's box, the pack's box with its strings, the phrases. -/
def Mid (w : World) (s : ByteArray) (R g o : Nat) (ss : List ByteArray) (st : Option (List UInt8)) (wx : World) : Prop :=
  ∃ va, SP wx g s st ∧ OwnRow wx R [.slice none 0 0, .slice none 0 0] 27 ∧ OwnRow wx o [va, .slice none 0 0] 27 ∧ wx.ownsRow (R + 3) 9 1 va ss.length (strs ss) ∧ Ext w wx

def Mid2 (w : World) (s : ByteArray) (R g o : Nat) (ss : List ByteArray) (ps : List Phr) (st : Option (List UInt8)) (wx : World) : Prop :=
  ∃ va vp vs, SP wx g s st ∧ OwnRow wx R [.slice none 0 0, .slice none 0 0] 27 ∧ OwnRow wx o [va, vp] 27 ∧ wx.ownsRow (R + 3) 9 1 va ss.length (strs ss) ∧
    wx.ownsRow (R + 3) 41 3 vp vs.length (trips vs) ∧ PEntries wx (R + 3) vs ps ∧ Ext w wx
/-- While a phrase is being read, in box q: its kinds so far. -/
def PMid (s : ByteArray) (g q : Nat) (t : ByteArray) (args : List Int) (code : List Ins) (st : Option (List UInt8)) (W wx : World) : Prop :=
  ∃ va vc, SP wx g s st ∧ OwnRow wx q [.string t, va, vc] 41 ∧ wx.ownsRow (q + 1) 3 1 va args.length (ints args) ∧ wx.ownsRow (q + 1) 36 3 vc code.length (codes code) ∧ KG g W wx
def SmallP (f : Phr) : Prop := f.name.size ≤ 12 ∧ f.args.length ≤ 6 ∧ f.code.length ≤ 60
def unp (s : ByteArray) : Option Pk := (lPack (s.data.toList.drop 3)).bind fun x => if okPack x.1 = true ∧ packB x.1 = s.data.toList then some x.1 else none

set_option maxRecDepth 100000 in
set_option maxHeartbeats 4000000 in
theorem unpack_any (s : ByteArray) (w : World) (hl : s.size ≤ 140737488355328) :
    Calls Tryd.prog 16 #[.string s] w fun e w' =>
      Outc (unp s) (fun P => ∃ v, e = .returned (.tuple #[v, .bool true]) ∧ ReadPk w' w.heap.size v P ∧ (∀ f ∈ P.phrases, PSized f) ∧ Ext w w') (e = .returned (.tuple #[nilPk, .bool false]) ∧ Ext w w') := by
  go_enter Tryd.func16, Tryd.ntmps16
  go_wp2_with fail
  obtain ⟨W1, HW⟩ : ∃ W1, Hid (W1 = (((w.alloc (.cells #[.slice none 0 0, .slice none 0 0] 27)).alloc (.cells #[.string s, .int .i64 3, .bool false] 61)).alloc (.cells #[.slice none 0 0, .slice none 0 0] 27))) := ⟨_, rfl⟩
  have hx1 : Ext w W1 := by rw [HW.out]; exact (((Ext.refl w).alloc _).alloc _).alloc _
  have hR : OwnRow W1 w.heap.size [.slice none 0 0, .slice none 0 0] 27 := by
    rw [HW.out]
    exact OwnRow.ext (OwnRow.alloc w [.slice none 0 0, .slice none 0 0] 27) (((Ext.refl _).alloc _).alloc _)
  have hS : SPat W1 (w.heap.size + 1) s 3 false := by
    rw [HW.out]
    have := OwnRow.ext (OwnRow.alloc (w.alloc (.cells #[.slice none 0 0, .slice none 0 0] 27)) [.string s, .int .i64 3, .bool false] 61) ((Ext.refl _).alloc (.cells #[.slice none 0 0, .slice none 0 0] 27))
    unfold SPat; simpa using this
  have hO : OwnRow W1 (w.heap.size + 1 + 1) [.slice none 0 0, .slice none 0 0] 27 := by
    rw [HW.out]
    have := OwnRow.alloc ((w.alloc (.cells #[.slice none 0 0, .slice none 0 0] 27)).alloc (.cells #[.string s, .int .i64 3, .bool false] 61)) [.slice none 0 0, .slice none 0 0] 27
    simpa using this
  rw [← HW.out]
  clear HW
  have hsp : SP W1 (w.heap.size + 1) s (some (s.data.toList.drop 3)) := SP.of_yes hS (by omega) rfl
  clear hS
  generalize hoo : w.heap.size + 1 + 1 = o at hO ⊢
  generalize hgg : w.heap.size + 1 = g at hsp hoo ⊢
  generalize hRR : w.heap.size = R at hR hgg ⊢
  refine (u_st g 40 s _ W1 hsp hl (by omega)).mono ?_
  rintro e w1 ⟨n, st, rfl, hn, hk1, hsp1, hrd1⟩
  have hR1 := hk1.row hR (by omega)
  have hO1 := hk1.row hO (by omega)
  have hx2 : Ext w w1 := KG.ext hx1 (by omega) hk1
  have HRD := hide hrd1
  clear hk1 hR hO hx1 hsp hrd1
  go_upto_block 0 with fail
  go_cut [] (fun wx => ∃ ss st', ss.length ≤ 40 ∧ (∀ t ∈ ss, t.size ≤ 60) ∧ Rdr (lList 40 (lText 60)) (some (s.data.toList.drop 3)) st' ss ∧ Mid w s R g o ss st' wx)
  case first =>
    go_wp2_with fail
    go_loopw [7] (fun i wr => ∃ (k : Nat) (ss : List ByteArray) (st' : Option (List UInt8)), k ≤ n ∧ i = .int .i64 k ∧ ss.length = k ∧ (∀ t ∈ ss, t.size ≤ 60) ∧ Rdr (pMany (lText 60) k) st st' ss ∧ Mid w s R g o ss st' wr) (fun i _ => n - (intOf i).toNat)
    case atStart => exact ⟨0, [], st, Nat.zero_le _, rfl, rfl, by simp, Rdr.many0 st, _, hsp1, hR1, hO1, World.ownsRow_nil _ _ _ _, hx2⟩
    case round =>
      obtain ⟨k, ss, st', hk, rfl, hsl, hss, hrd, va, hsp', hR', hO', hown, hxw⟩ := hrel
      have HRK := hide hrd
      have HSL := hide hsl
      have HSS := hide hss
      have hc2 := hsp'.flag
      clear hsp1 hR1 hO1 hx2 hrd hsl hss
      by_cases hlt : k < n
      · cases st' with
        | none =>
          simp only [Option.isNone_none] at hc2
          go_wp2_with fail
          go_meet
          exact ⟨ss, none, by have := HSL.out; omega, HSS.out, Rdr.list HRD.out (Rdr.manyStop HRK.out hk _), va, hsp', hR', hO', hown, hxw⟩
        | some r =>
          simp only [Option.isNone_some] at hc2
          obtain ⟨va0, van, vac, rfl⟩ := ownsSlice hown
          go_wp2_with fail
          refine (x_st g 60 s _ wr hsp' hl (by omega)).mono ?_
          rintro e w2 ⟨t, st2, rfl, htl, hk2, hsp2, hrd2⟩
          have HR2 := hide (Rdr.manyS HRK.out hrd2)
          have hR2 := hk2.row hR' (by omega)
          have hO2 := hk2.row hO' (by omega)
          have hx2 : Ext w w2 := KG.ext hxw (by omega) hk2
          have hown2 := ownsKG hown hk2 (by omega)
          rw [HSL.out] at hown2
          have hrow : ∀ b, Value.ownBlock (.slice va0 van vac) = some b → R + 3 ≤ b := fun b hb => (World.ownsRow.lt hown2 b hb).1
          have hRlt := hO2.lt
          clear hk2 hrd2 hown hxw hR' hO' hsp' hc2
          have g0 : w2.cell? ⟨o, 0, none⟩ = some (.slice va0 van vac) := hO2.cell 0
          have hx3 := (Ext.refl w2).alloc (.cells #[.string t] 9)
          go_wp2_with (at_builtin; refine wpList_append_own _ rfl _ _ 24 rfl (R + 3) 9 Tryd.t9 (.string ByteArray.empty) 1 16 Tryd.underlying24 info_string (by kernel_rfl) (by kernel_rfl) (by kernel_rfl) (by kernel_rfl) (by omega) _ k (strs ss) rfl (ownsExt hown2 hx3) ⟨w2.heap.size, 0, none⟩ 1 1 [.string t] rfl (by simp) (cell_one w2 _ _) (by simp [Value.oneCell']) (by unfold maxLen; omega) (by omega) (Nat.le_trans (by omega) hx3.size) ?_; intro v3 w3 ho3 hg3' hn3; obtain ⟨a3, n3, c3, rfl⟩ := ownsSlice ho3; have hg3 : (w2.alloc (.cells #[.string t] 9)).grownBy w3 (Value.ownBlock (.slice va0 van vac)) := hg3'; clear hg3' hn3; have hO3 := rowGrown (hO2.ext hx3) hg3 (fun e => by have := hrow o e; omega); have k0 : w3.cell? ⟨o, 0, none⟩ = some (.slice va0 van vac) := hO3.cell 0; have kf := hO3.frozen 0)
          have hsp3 := ((hsp2.ext hx3).grown hg3 (fun e => by have := hrow g e; omega)).other (b := o) (by omega) 0 (.slice a3 n3 c3)
          have hR3 := (rowGrown (hR2.ext hx3) hg3 (fun e => by have := hrow R e; omega)).other (b := o) (by omega) 0 (.slice a3 n3 c3)
          have hxw3 := (Ext.grown (hx2.trans hx3) hg3 (fun b hb => by have := hrow b hb; omega)).setCell (b := o) (i := 0) (by omega) (.slice a3 n3 c3)
          have ho4 := ownsOther (u := .slice a3 n3 c3) ho3 hO3 (by decide) 0
          have hO4 := hO3.set 0 (.slice a3 n3 c3)
          simp only [List.set_cons_zero] at hO4
          go_roundw
          case rel =>
            refine ⟨k + 1, ss ++ [t], st2, by omega, by go_num, by simp [HSL.out], ?_, HR2.out, .slice a3 n3 c3, hsp3, hR3, hO4, ?_, hxw3⟩
            · intro x hx
              rcases List.mem_append.1 hx with h | h
              · exact HSS.out x h
              · simp at h; subst h; exact htl
            · have e : strs (ss ++ [t]) = strs ss ++ [.string t] := by simp [strs]
              rw [e, List.length_append, HSL.out]; exact ho4
          case measure => simp [intOf]; omega
      · have hkn : k = n := by omega
        subst hkn
        go_wp2_with fail
        go_meet
        exact ⟨ss, st', by have := HSL.out; omega, HSS.out, Rdr.list HRD.out HRK.out, va, hsp', hR', hO', hown, hxw⟩
  case rest =>
    obtain ⟨ss, st', hsl, hss, hrdS, va, hsp', hR', hO', hown, hxw⟩ := hcut
    have HSL := hide hsl
    have HSS := hide hss
    have HRS := hide hrdS
    clear hsp1 hR1 hO1 hx2 HRD hn hsl hss hrdS
    go_wp2_with fail
    refine (u_st g 12 s _ wc hsp' hl (by omega)).mono ?_
    rintro e w1 ⟨n2, st2, rfl, hn2, hk1, hsp1, hrd1⟩
    have hR1 := hk1.row hR' (by omega)
    have hO1 := hk1.row hO' (by omega)
    have hx2 : Ext w w1 := KG.ext hxw (by omega) hk1
    have hown1 := ownsKG hown hk1 (by omega)
    have HRD := hide hrd1
    clear hk1 hR' hO' hxw hsp' hrd1 hown
    go_upto_block 2 with fail
    go_cut [] (fun wx => ∃ ps st', ps.length ≤ 12 ∧ (∀ f ∈ ps, SmallP f) ∧ Rdr lPack (some (s.data.toList.drop 3)) st' ⟨ss, ps⟩ ∧ Mid2 w s R g o ss ps st' wx)
    case first =>
      go_wp2_with fail
      go_loopw [9] (fun i wr => ∃ (k : Nat) (ps : List Phr) (st' : Option (List UInt8)), k ≤ n2 ∧ i = .int .i64 k ∧ ps.length = k ∧ (∀ f ∈ ps, SmallP f) ∧ Rdr (pMany lPhr k) st2 st' ps ∧ Mid2 w s R g o ss ps st' wr) (fun i _ => n2 - (intOf i).toNat)
      case atStart => exact ⟨0, [], st2, Nat.zero_le _, rfl, rfl, by simp, Rdr.many0 st2, _, _, [], hsp1, hR1, hO1, hown1, World.ownsRow_nil _ _ _ _, ⟨rfl, fun i hi => absurd hi (Nat.not_lt_zero _)⟩, hx2⟩
      case round =>
        obtain ⟨k, ps, st', hk, rfl, hpl, hps, hrd, va, vp, vs, hsp', hR', hO', hown, hownP, hent, hxw⟩ := hrel
        have HRK := hide hrd
        have HPL := hide hpl
        have HPS := hide hps
        have hc2 := hsp'.flag
        clear hsp1 hR1 hO1 hx2 hrd hpl hps hown1
        by_cases hlt : k < n2
        · cases st' with
          | none =>
            simp only [Option.isNone_none] at hc2
            go_wp2_with fail
            go_meet
            exact ⟨ps, none, by have := HPL.out; omega, HPS.out, Rdr.pack HRS.out (Rdr.list HRD.out (Rdr.manyStop HRK.out hk _)), va, vp, vs, hsp', hR', hO', hown, hownP, hent, hxw⟩
          | some r =>
            simp only [Option.isNone_some] at hc2
            go_wp2_with fail
            refine (x_st g 12 s _ wr hsp' hl (by omega)).mono ?_
            rintro e w2 ⟨t, stA, rfl, htl, hk2, hsp2, hrdA⟩
            have HRA := hide hrdA
            have hR2 := hk2.row hR' (by omega)
            have hO2 := hk2.row hO' (by omega)
            have hx2 : Ext w w2 := KG.ext hxw (by omega) hk2
            have hown2 := ownsKG hown hk2 (by omega)
            have hownP2 := ownsKG hownP hk2 (by omega)
            have hent2 := hent.kg hk2 (by omega)
            clear hk2 hrdA hown hownP hent hxw hR' hO' hsp' hc2
            go_wp2_with fail
            obtain ⟨W3, HW⟩ : ∃ W3, Hid (W3 = w2.alloc (.cells #[.string t, .slice none 0 0, .slice none 0 0] 41)) := ⟨_, rfl⟩
            have hx3 : Ext w2 W3 := by rw [HW.out]; exact (Ext.refl w2).alloc _
            have hq3 : OwnRow W3 w2.heap.size [.string t, .slice none 0 0, .slice none 0 0] 41 := by rw [HW.out]; exact OwnRow.alloc w2 [.string t, .slice none 0 0, .slice none 0 0] 41
            rw [← HW.out]
            clear HW
            have hsp3 := hsp2.ext hx3
            have hk3 : KG g w2 W3 := KG.of_ext hx3
            have hqlt : R + 3 ≤ w2.heap.size := by have := hO2.lt; omega
            clear hsp2 hx3
            generalize hqq : w2.heap.size = q at hq3 hqlt ⊢
            refine (u_st g 6 s _ W3 hsp3 hl (by omega)).mono ?_
            rintro e w4 ⟨m, stB, rfl, hm, hk4', hsp4, hrdB⟩
            have hq4 := hk4'.row hq3 (by omega)
            have hk4 := hk3.trans hk4'
            have HRB := hide hrdB
            clear hsp3 hq3 hrdB hk3 hk4'
            go_upto_block 4 with fail
            go_cut [] (fun wx => ∃ args stC, args.length ≤ 6 ∧ Rdr (lList 6 pKind) stA stC args ∧ PMid s g q t args [] stC w2 wx)
            case first =>
              clear hR2 hO2 hown2 hownP2 hent2 hx2
              go_wp2_with fail
              go_loopw [12] (fun i wr => ∃ (j : Nat) (args : List Int) (st' : Option (List UInt8)), j ≤ m ∧ i = .int .i64 j ∧ args.length = j ∧ Rdr (pMany pKind j) stB st' args ∧ PMid s g q t args [] st' w2 wr) (fun i _ => m - (intOf i).toNat)
              case atStart => exact ⟨0, [], stB, Nat.zero_le _, rfl, rfl, Rdr.many0 stB, _, _, hsp4, hq4, World.ownsRow_nil _ _ _ _, World.ownsRow_nil _ _ _ _, hk4⟩
              case round =>
                obtain ⟨j, args, st', hj, rfl, hal, hrd, va', vc', hsp', hq', hown, hownC, hkg⟩ := hrel
                have HRJ := hide hrd
                have HAL := hide hal
                have hc2 := hsp'.flag
                clear hsp4 hq4 hk4 hrd hal
                by_cases hlt' : j < m
                · cases st' with
                  | none =>
                    simp only [Option.isNone_none] at hc2
                    go_wp2_with fail
                    go_meet
                    exact ⟨args, none, by have := HAL.out; omega, Rdr.list HRB.out (Rdr.manyStop HRJ.out hj _), va', vc', hsp', hq', hown, hownC, hkg⟩
                  | some r' =>
                    simp only [Option.isNone_some] at hc2
                    obtain ⟨va0, van, vac, rfl⟩ := ownsSlice hown
                    go_wp2_with fail
                    refine (one_st g s r' wr hsp' hl).mono ?_
                    rintro e w5 ⟨c, st5, rfl, hcl, hk5, hsp5, hrd5⟩
                    have HR5 := hide (Rdr.manyS HRJ.out (Rdr.kind hrd5))
                    have hq5 := hk5.row hq' (by omega)
                    have hkg5 := hkg.trans hk5
                    have hown5 := ownsKG hown hk5 (by omega)
                    have hownC5 := ownsKG hownC hk5 (by omega)
                    rw [HAL.out] at hown5
                    have hrow : ∀ b, Value.ownBlock (.slice va0 van vac) = some b → q + 1 ≤ b := fun b hb => (World.ownsRow.lt hown5 b hb).1
                    have hqsz := hq5.lt
                    clear hk5 hrd5 hown hownC hkg hq' hsp' hc2
                    have g1 : w5.cell? ⟨q, 1, none⟩ = some (.slice va0 van vac) := hq5.cell 1
                    have hx6 := (Ext.refl w5).alloc (.cells #[.int .i64 (c : Int)] 3)
                    go_wp2_with (at_builtin; refine wpList_append_own _ rfl _ _ 32 rfl (q + 1) 3 Tryd.t3 (.int .i64 0) 1 8 Tryd.underlying32 info_int (by kernel_rfl) (by kernel_rfl) (by kernel_rfl) (by kernel_rfl) (by omega) _ j (ints args) rfl (ownsExt hown5 hx6) ⟨w5.heap.size, 0, none⟩ 1 1 [.int .i64 (c : Int)] rfl (by simp) (cell_one w5 _ _) (by simp [Value.oneCell']) (by unfold maxLen; omega) (by omega) (Nat.le_trans (by omega) hx6.size) ?_; intro v6 w6 ho6 hg6' hn6; obtain ⟨a6, n6, c6, rfl⟩ := ownsSlice ho6; have hg6 : (w5.alloc (.cells #[.int .i64 (c : Int)] 3)).grownBy w6 (Value.ownBlock (.slice va0 van vac)) := hg6'; clear hg6' hn6; have hq6 := rowGrown (hq5.ext hx6) hg6 (fun e => by have := hrow q e; omega); have k1 : w6.cell? ⟨q, 1, none⟩ = some (.slice va0 van vac) := hq6.cell 1; have kf := hq6.frozen 1)
                    have hsp7 := ((hsp5.ext hx6).grown hg6 (fun e => by have := hrow g e; omega)).other (b := q) (by omega) 1 (.slice a6 n6 c6)
                    have hkg7 := ((hkg5.trans (KG.of_ext hx6)).grown hg6 (fun b hb => by have := hrow b hb; omega)).setNew (n := q) (by omega) 1 (.slice a6 n6 c6)
                    have hC7 := ownsOther (u := .slice a6 n6 c6) (owns_type (ownsExt hownC5 hx6) hg6 (ownsExt hown5 hx6) (by decide)) hq6 (by decide) 1
                    have ho7 := ownsOther (u := .slice a6 n6 c6) ho6 hq6 (by decide) 1
                    have hq7 := hq6.set 1 (.slice a6 n6 c6)
                    simp only [List.set_cons_zero, List.set_cons_succ] at hq7
                    go_roundw
                    case rel =>
                      refine ⟨j + 1, args ++ [(c : Int)], st5, by omega, by go_num, by simp [HAL.out], HR5.out, .slice a6 n6 c6, vc', hsp7, hq7, ?_, hC7, hkg7⟩
                      have e : ints (args ++ [(c : Int)]) = ints args ++ [.int .i64 (c : Int)] := by simp [ints]
                      rw [e, List.length_append, HAL.out]; exact ho7
                    case measure => simp [intOf]; omega
                · have hjn : j = m := by omega
                  subst hjn
                  go_wp2_with fail
                  go_meet
                  exact ⟨args, st', by have := HAL.out; omega, Rdr.list HRB.out HRJ.out, va', vc', hsp', hq', hown, hownC, hkg⟩
            case rest =>
              obtain ⟨args, stC, hal, hrdC, va1, vc1, hsp5, hq5, hA5, hC5, hkg5⟩ := hcut
              have HRC := hide hrdC
              have HAL := hide hal
              clear hsp4 hq4 hk4 hrdC hal HRB
              go_wp2_with fail
              refine (u_st g 60 s _ wc hsp5 hl (by omega)).mono ?_
              rintro e w6 ⟨m2, stD, rfl, hm2, hk6, hsp6, hrdD⟩
              have hq6 := hk6.row hq5 (by omega)
              have hA6 := ownsKG hA5 hk6 (by omega)
              have hC6 := ownsKG hC5 hk6 (by omega)
              have hkg6 := hkg5.trans hk6
              have HRDD := hide hrdD
              clear hsp5 hq5 hA5 hC5 hkg5 hk6 hrdD
              go_upto_block 6 with fail
              go_cut [] (fun wx => ∃ code stE, code.length ≤ 60 ∧ Rdr (lList 60 lIns) stC stE code ∧ PMid s g q t args code stE w2 wx)
              case first =>
                clear hR2 hO2 hown2 hownP2 hent2 hx2
                go_wp2_with fail
                go_loopw [14] (fun i wr => ∃ (j : Nat) (code : List Ins) (st' : Option (List UInt8)), j ≤ m2 ∧ i = .int .i64 j ∧ code.length = j ∧ Rdr (pMany lIns j) stD st' code ∧ PMid s g q t args code st' w2 wr) (fun i _ => m2 - (intOf i).toNat)
                case atStart => exact ⟨0, [], stD, Nat.zero_le _, rfl, rfl, Rdr.many0 stD, _, _, hsp6, hq6, hA6, hC6, hkg6⟩
                case round =>
                  obtain ⟨j, code, st', hj, rfl, hcl, hrd, va', vc', hsp', hq', hownA, hown, hkg⟩ := hrel
                  have HRJ := hide hrd
                  have HCL := hide hcl
                  have hc2 := hsp'.flag
                  clear hsp6 hq6 hA6 hC6 hkg6 hrd hcl
                  by_cases hlt' : j < m2
                  · cases st' with
                    | none =>
                      simp only [Option.isNone_none] at hc2
                      go_wp2_with fail
                      go_meet
                      exact ⟨code, none, by have := HCL.out; omega, Rdr.list HRDD.out (Rdr.manyStop HRJ.out hj _), va', vc', hsp', hq', hownA, hown, hkg⟩
                    | some r' =>
                      simp only [Option.isNone_some] at hc2
                      obtain ⟨vc0, vcn, vcc, rfl⟩ := ownsSlice hown
                      go_wp2_with fail
                      refine (one_st g s r' wr hsp' hl).mono ?_
                      rintro e w7 ⟨c, st7, rfl, hcb, hk7, hsp7, hrd7⟩
                      have HR7 := hide hrd7
                      clear hrd7 hc2 hsp'
                      go_wp2_with fail
                      obtain ⟨W8, HW⟩ : ∃ W8, Hid (W8 = w7.alloc (.cells #[.int .i64 (c : Int), .int .i64 0, .int .i64 0] 36)) := ⟨_, rfl⟩
                      have hx8 : Ext w7 W8 := by rw [HW.out]; exact (Ext.refl w7).alloc _
                      have hp8 : OwnRow W8 w7.heap.size [.int .i64 (c : Int), .int .i64 0, .int .i64 0] 36 := by rw [HW.out]; exact OwnRow.alloc w7 [.int .i64 (c : Int), .int .i64 0, .int .i64 0] 36
                      rw [← HW.out]
                      clear HW
                      have hsp8 := hsp7.ext hx8
                      have hk8 : KG g wr W8 := hk7.trans (KG.of_ext hx8)
                      have hpge : wr.heap.size ≤ w7.heap.size := hk7.size
                      have hqp : q < w7.heap.size := Nat.lt_of_lt_of_le hq'.lt hpge
                      clear hsp7 hx8 hk7
                      generalize hpp : w7.heap.size = p at hp8 hpge hqp ⊢
                      clear hpp
                      refine (u_st g 2147483647 s _ W8 hsp8 hl (by omega)).mono ?_
                      rintro e w9 ⟨a1, st9, rfl, ha1, hk9, hsp9, hrd9⟩
                      have HR9 := hide hrd9
                      have hp9 := hk9.row hp8 (by omega)
                      have hkk9 := hk8.trans hk9
                      clear hrd9 hsp8 hk8 hp8 hk9
                      have g1 : w9.cell? ⟨p, 1, none⟩ = some (.int .i64 0) := hp9.cell 1
                      have f1 := hp9.frozen 1
                      go_wp2_with fail
                      have hp10 := hp9.set 1 (.int .i64 (a1 : Int))
                      simp only [List.set_cons_zero, List.set_cons_succ] at hp10
                      have hsp10 := hsp9.other (b := p) (by omega) 1 (.int .i64 (a1 : Int))
                      have hk10 := hkk9.setNew (n := p) hpge 1 (.int .i64 (a1 : Int))
                      clear hp9 hsp9 hkk9 g1 f1
                      generalize w9.setCell ⟨p, 1, none⟩ (.int .i64 (a1 : Int)) = w10 at hp10 hsp10 hk10 ⊢
                      refine (u_st g 2147483647 s _ w10 hsp10 hl (by omega)).mono ?_
                      rintro e w11 ⟨b1, st11, rfl, hb1, hk11, hsp11, hrd11⟩
                      have HR11 := hide (Rdr.manyS HRJ.out (Rdr.ins HR7.out HR9.out hrd11))
                      have hp11 := hk11.row hp10 (by omega)
                      have hkk11 := hk10.trans hk11
                      clear hrd11 hsp10 hk10 hp10 hk11
                      have g2 : w11.cell? ⟨p, 2, none⟩ = some (.int .i64 0) := hp11.cell 2
                      have f2 := hp11.frozen 2
                      go_upto_region 27 with fail
                      have hp12 := hp11.set 2 (.int .i64 (b1 : Int))
                      simp only [List.set_cons_zero, List.set_cons_succ] at hp12
                      have hsp12 := hsp11.other (b := p) (by omega) 2 (.int .i64 (b1 : Int))
                      have hk12 := hkk11.setNew (n := p) hpge 2 (.int .i64 (b1 : Int))
                      clear hp11 hsp11 hkk11 g2 f2
                      generalize w11.setCell ⟨p, 2, none⟩ (.int .i64 (b1 : Int)) = w12 at hp12 hsp12 hk12 ⊢
                      have hq12 := hk12.row hq' (by omega)
                      have hown12 := ownsKG hown hk12 (by omega)
                      have hownA12 := ownsKG hownA hk12 (by omega)
                      have hkg12 := hkg.trans hk12
                      rw [HCL.out] at hown12
                      have hrow : ∀ b, Value.ownBlock (.slice vc0 vcn vcc) = some b → q + 1 ≤ b := fun b hb => (World.ownsRow.lt hown12 b hb).1
                      have hqsz := hq12.lt
                      clear hk12 hown hownA hkg hq'
                      have g2 : w12.cell? ⟨q, 2, none⟩ = some (.slice vc0 vcn vcc) := hq12.cell 2
                      have p0 : w12.cell? ⟨p, 0, none⟩ = some (.int .i64 (c : Int)) := hp12.cell 0
                      have p1 : w12.cell? ⟨p, 1, none⟩ = some (.int .i64 (a1 : Int)) := hp12.cell 1
                      have p2 : w12.cell? ⟨p, 2, none⟩ = some (.int .i64 (b1 : Int)) := hp12.cell 2
                      have hx13 := (Ext.refl w12).alloc (.cells #[.int .i64 (c : Int), .int .i64 (a1 : Int), .int .i64 (b1 : Int)] 36)
                      go_wp2_with (at_builtin; refine wpList_append_own _ rfl _ _ 33 rfl (q + 1) 36 Tryd.t36 (.agg #[.int .i64 0, .int .i64 0, .int .i64 0]) 3 24 Tryd.underlying33 info_ins (by kernel_rfl) (by kernel_rfl) (by kernel_rfl) (by kernel_rfl) (by omega) _ j (codes code) rfl (ownsExt hown12 hx13) ⟨w12.heap.size, 0, none⟩ 1 1 [.int .i64 (c : Int), .int .i64 (a1 : Int), .int .i64 (b1 : Int)] rfl (by simp) (cell_three w12 _ _ _ _) (by simp [Value.oneCell']) (by unfold maxLen; omega) (by omega) (Nat.le_trans (by omega) hx13.size) ?_; intro v14 w14 ho14 hg14' hn14; obtain ⟨a14, n14, c14, rfl⟩ := ownsSlice ho14; have hg14 : (w12.alloc (.cells #[.int .i64 (c : Int), .int .i64 (a1 : Int), .int .i64 (b1 : Int)] 36)).grownBy w14 (Value.ownBlock (.slice vc0 vcn vcc)) := hg14'; clear hg14' hn14; have hq14 := rowGrown (hq12.ext hx13) hg14 (fun e => by have := hrow q e; omega); have k2 : w14.cell? ⟨q, 2, none⟩ = some (.slice vc0 vcn vcc) := hq14.cell 2; have kf := hq14.frozen 2)
                      have hsp15 := ((hsp12.ext hx13).grown hg14 (fun e => by have := hrow g e; omega)).other (b := q) (by omega) 2 (.slice a14 n14 c14)
                      have hkg15 := ((hkg12.trans (KG.of_ext hx13)).grown hg14 (fun b hb => by have := hrow b hb; omega)).setNew (n := q) (by omega) 2 (.slice a14 n14 c14)
                      have hA15 := ownsOther (u := .slice a14 n14 c14) (owns_type (ownsExt hownA12 hx13) hg14 (ownsExt hown12 hx13) (by decide)) hq14 (by decide) 2
                      have ho15 := ownsOther (u := .slice a14 n14 c14) ho14 hq14 (by decide) 2
                      have hq15 := hq14.set 2 (.slice a14 n14 c14)
                      simp only [List.set_cons_zero, List.set_cons_succ] at hq15
                      go_roundw
                      case rel =>
                        refine ⟨j + 1, code ++ [((c : Int), (a1 : Int), (b1 : Int))], st11, by omega, by go_num, by simp [HCL.out], HR11.out, va', .slice a14 n14 c14, hsp15, hq15, hA15, ?_, hkg15⟩
                        have e : codes (code ++ [((c : Int), (a1 : Int), (b1 : Int))]) = codes code ++ [.int .i64 (c : Int), .int .i64 (a1 : Int), .int .i64 (b1 : Int)] := by simp [codes]
                        rw [e, List.length_append, HCL.out]; exact ho15
                      case measure => simp [intOf]; omega
                  · have hjn : j = m2 := by omega
                    subst hjn
                    go_wp2_with fail
                    go_meet
                    exact ⟨code, st', by have := HCL.out; omega, Rdr.list HRDD.out HRJ.out, va', vc', hsp', hq', hownA, hown, hkg⟩
              case rest =>
                obtain ⟨code, stE, hcl, hrdE, va2, vc2, hsp7, hq7, hA7, hC7, hkg7⟩ := hcut
                have HRE := hide (Rdr.manyS HRK.out (Rdr.phr HRA.out HRC.out hrdE))
                have HCL := hide hcl
                clear hsp6 hq6 hA6 hC6 hkg6 hrdE hcl HRDD
                have hR7 := hkg7.row hR2 (by omega)
                have hO7 := hkg7.row hO2 (by omega)
                have hx7 : Ext w wc := KG.ext hx2 (by omega) hkg7
                have hown7 := ownsKG hown2 hkg7 (by omega)
                have hownP7 := ownsKG hownP2 hkg7 (by omega)
                have hent7 := hent2.kg hkg7 (by omega)
                clear hR2 hO2 hx2 hown2 hownP2 hent2 hkg7
                obtain ⟨vp0, vpn, vpc, rfl⟩ := ownsSlice hownP7
                obtain ⟨va0, van, vac, rfl⟩ := ownsSlice hA7
                obtain ⟨vc0, vcn, vcc, rfl⟩ := ownsSlice hC7
                have HVL : Hid (vs.length = k) := hent7.1.trans HPL.out
                have hA8 := ownsBase (B' := R + 3) hA7 (by omega)
                have hC8 := ownsBase (B' := R + 3) hC7 (by omega)
                have hrow : ∀ b, Value.ownBlock (.slice vp0 vpn vpc) = some b → R + 3 ≤ b := fun b hb => (World.ownsRow.lt hownP7 b hb).1
                have hosz := hO7.lt
                clear hA7 hC7
                have g1 : wc.cell? ⟨o, 1, none⟩ = some (.slice vp0 vpn vpc) := hO7.cell 1
                have p0 : wc.cell? ⟨q, 0, none⟩ = some (.string t) := hq7.cell 0
                have p1 : wc.cell? ⟨q, 1, none⟩ = some (.slice va0 van vac) := hq7.cell 1
                have p2 : wc.cell? ⟨q, 2, none⟩ = some (.slice vc0 vcn vcc) := hq7.cell 2
                have hx13 := (Ext.refl wc).alloc (.cells #[.string t, .slice va0 van vac, .slice vc0 vcn vcc] 41)
                go_wp2_with (at_builtin; refine wpList_append_own _ rfl _ _ 25 rfl (R + 3) 41 Tryd.t41 (.agg #[.string ByteArray.empty, .slice none 0 0, .slice none 0 0]) 3 64 Tryd.underlying25 info_phrase (by kernel_rfl) (by kernel_rfl) (by kernel_rfl) (by kernel_rfl) (by omega) _ vs.length (trips vs) rfl (ownsExt hownP7 hx13) ⟨wc.heap.size, 0, none⟩ 1 1 [.string t, .slice va0 van vac, .slice vc0 vcn vcc] rfl (by simp) (cell_three wc _ _ _ _) (by simp [Value.oneCell']) (by unfold maxLen; have := HVL.out; omega) (by have := HVL.out; omega) (Nat.le_trans (by omega) hx13.size) ?_; intro v14 w14 ho14 hg14' hn14; obtain ⟨a14, n14, c14, rfl⟩ := ownsSlice ho14; have hg14 : (wc.alloc (.cells #[.string t, .slice va0 van vac, .slice vc0 vcn vcc] 41)).grownBy w14 (Value.ownBlock (.slice vp0 vpn vpc)) := hg14'; clear hg14' hn14; have hO14 := rowGrown (hO7.ext hx13) hg14 (fun e => by have := hrow o e; omega); have k1 : w14.cell? ⟨o, 1, none⟩ = some (.slice vp0 vpn vpc) := hO14.cell 1; have kf := hO14.frozen 1)
                have hP13 := ownsExt hownP7 hx13
                have hsp15 := ((hsp7.ext hx13).grown hg14 (fun e => by have := hrow g e; omega)).other (b := o) (by omega) 1 (.slice a14 n14 c14)
                have hR15 := (rowGrown (hR7.ext hx13) hg14 (fun e => by have := hrow R e; omega)).other (b := o) (by omega) 1 (.slice a14 n14 c14)
                have hxw15 := (Ext.grown (hx7.trans hx13) hg14 (fun b hb => by have := hrow b hb; omega)).setCell (b := o) (i := 1) (by omega) (.slice a14 n14 c14)
                have hS15 := ownsOther (u := .slice a14 n14 c14) (owns_type (ownsExt hown7 hx13) hg14 hP13 (by decide)) hO14 (by decide) 1
                have ho15 := ownsOther (u := .slice a14 n14 c14) ho14 hO14 (by decide) 1
                have hE14 := PEntries.push ((hent7.ext hx13).grown hP13 hg14) (t := (.string t, .slice va0 van vac, .slice vc0 vcn vcc)) (f := ⟨t, args, code⟩) ⟨_, _, rfl, owns_type (ownsExt hA8 hx13) hg14 hP13 (by decide), owns_type (ownsExt hC8 hx13) hg14 hP13 (by decide)⟩
                have hE15 := hE14.other hO14 (by decide) (by decide) 1 (.slice a14 n14 c14)
                have hO15 := hO14.set 1 (.slice a14 n14 c14)
                simp only [List.set_cons_zero, List.set_cons_succ] at hO15
                have HREL : Hid (Mid2 w s R g o ss (ps ++ [⟨t, args, code⟩]) stE (w14.setCell ⟨o, 1, none⟩ (.slice a14 n14 c14))) := by
                  refine ⟨_, _, vs ++ [(.string t, .slice va0 van vac, .slice vc0 vcn vcc)], hsp15, hR15, hO15, hS15, ?_, hE15, hxw15⟩
                  have e : trips (vs ++ [(.string t, .slice va0 van vac, .slice vc0 vcn vcc)]) = trips vs ++ [.string t, .slice va0 van vac, .slice vc0 vcn vcc] := by simp [trips]
                  rw [e, List.length_append]; exact ho15
                have HSM : Hid (∀ f ∈ ps ++ [⟨t, args, code⟩], SmallP f) := by
                  show ∀ f ∈ ps ++ [⟨t, args, code⟩], SmallP f
                  intro x hx
                  rcases List.mem_append.1 hx with h | h
                  · exact HPS.out x h
                  · simp at h; subst h; exact ⟨htl, HAL.out, HCL.out⟩
                clear hsp15 hR15 hxw15 hS15 ho15 hE14 hE15 hO15 hP13
                go_roundw
                case rel =>
                  exact ⟨k + 1, ps ++ [⟨t, args, code⟩], stE, by omega, by go_num, by simp [HPL.out], HSM.out, HRE.out, HREL.out⟩
                case measure => simp [intOf]; omega
        · have hkn : k = n2 := by omega
          subst hkn
          go_wp2_with fail
          go_meet
          exact ⟨ps, st', by have := HPL.out; omega, HPS.out, Rdr.pack HRS.out (Rdr.list HRD.out HRK.out), va, vp, vs, hsp', hR', hO', hown, hownP, hent, hxw⟩
    case rest =>
      obtain ⟨ps, st3, hpl, hps, hrdP, va, vp, vs, hsp3, hR3, hO3, hS3, hP3, hE3, hx3⟩ := hcut
      have HRP := hide hrdP
      clear hsp1 hR1 hO1 hx2 hown1 HRD HRS hrdP hn2
      obtain ⟨sa, ns, cs, rfl⟩ := ownsSlice hS3
      obtain ⟨ap, np, cp, rfl⟩ := ownsSlice hP3
      have hzP : ∀ f ∈ ps, PSized f := fun f hf => by
        have := hps f hf
        exact ⟨by have := this.2.1; omega, by have := this.2.2; omega, by have := this.1; omega⟩
      obtain ⟨hnsEq, hncs, hstrs⟩ := strsAt_of_owns hS3 rfl
      obtain ⟨hnpEq, hncp, hphr⟩ := phrasesAt_of_owns hP3 rfl hE3 hzP
      have hnp2 : np ≤ 12 := by rw [hnpEq, hE3.1]; exact hpl
      have hns2 : ns ≤ 40 := by rw [hnsEq]; exact HSL.out
      have HZS : ∀ x ∈ ss, x.size ≤ 140737488355328 := fun x hx => by have := HSS.out x hx; omega
      have HZP := hide hzP
      clear hnsEq hnpEq hzP hps
      have g0 : wc.cell? ⟨o, 0, none⟩ = some (.slice sa ns cs) := hO3.cell 0
      have g1 : wc.cell? ⟨o, 1, none⟩ = some (.slice ap np cp) := hO3.cell 1
      go_wp2_with fail
      refine (refWithin_any sa ap ns np cs cp ⟨ss, ps⟩ wc hstrs hphr (by omega) (by omega) HZS).mono ?_
      rintro e w4 ⟨rfl, he4⟩
      have hsp4 := hsp3.ext he4
      have hR4 := hR3.ext he4
      have hO4 := hO3.ext he4
      have hS4 := ownsExt hS3 he4
      have hP4 := ownsExt hP3 he4
      have hE4 := hE3.ext he4
      have hx4 := hx3.trans he4
      have hstrs4 := hstrs.ext he4
      have hphr4 := hphr.ext he4
      have hc2 := hsp4.flag
      clear hsp3 hR3 hO3 hS3 hP3 hE3 hx3 hstrs hphr g0 g1 he4 HZS
      have g0 : w4.cell? ⟨o, 0, none⟩ = some (.slice sa ns cs) := hO4.cell 0
      have g1 : w4.cell? ⟨o, 1, none⟩ = some (.slice ap np cp) := hO4.cell 1
      have r0 : w4.cell? ⟨R, 0, none⟩ = some (.slice none 0 0) := hR4.cell 0
      have r1 : w4.cell? ⟨R, 1, none⟩ = some (.slice none 0 0) := hR4.cell 1
      have l0 := hR4.frozen 0
      have l1 := hR4.frozen 1
      cases st3 with
      | none =>
        have HN : Hid (unp s = none) := by
          have h1 := HRP.out.1
          show _ = _
          simp only [Option.bind_some] at h1
          cases hq : lPack (s.data.toList.drop 3) with
          | none => unfold unp; rw [hq]; rfl
          | some y => rw [hq] at h1; simp at h1
        simp only [Option.isNone_none] at hc2
        go_wp2_with fail
        have a3 := (hR4.set 0 (.slice none 0 0)).set 1 (.slice none 0 0)
        simp only [List.set_cons_zero, List.set_cons_succ] at a3
        have z0 := a3.cell 0
        have z1 := a3.cell 1
        simp only [List.getElem?_cons_zero, List.getElem?_cons_succ] at z0 z1
        have hxf := (hx4.setCell (b := R) (i := 0) (by omega) (.slice none 0 0)).setCell (b := R) (i := 1) (by omega) (.slice none 0 0)
        clear r0 r1 l0 l1 a3
        refine bodyPost_ret (v := .tuple #[nilPk, .bool false]) ?_ rfl (outc_no HN.out ⟨rfl, hxf⟩)
        clear hxf
        generalize ((w4.setCell ⟨R, 0, none⟩ (.slice none 0 0)).setCell ⟨R, 1, none⟩ (.slice none 0 0)) = wf at z0 z1 ⊢
        simp [results, Tryd.results16, go_sem, z0, z1, nilPk]
      | some r =>
        have h1 : lPack (s.data.toList.drop 3) = some (⟨ss, ps⟩, r) := by
          have h1 := HRP.out.1
          have h2 := HRP.out.2
          simp only [Option.bind_some] at h1 h2
          cases hq : lPack (s.data.toList.drop 3) with
          | none => rw [hq] at h1; simp at h1
          | some y =>
            rw [hq] at h1
            simp at h1
            have := h2 y hq
            rw [← this, h1]
        have HU : Hid (unp s = if okPack ⟨ss, ps⟩ = true ∧ packB ⟨ss, ps⟩ = s.data.toList then some ⟨ss, ps⟩ else none) := by show _ = _; unfold unp; rw [h1]; rfl
        clear h1
        simp only [Option.isNone_some] at hc2
        cases hok : okPack ⟨ss, ps⟩ with
        | false =>
          have HN : Hid (unp s = none) := by show _ = _; rw [HU.out, if_neg (by simp [hok])]
          go_wp2_with fail
          have a3 := (hR4.set 0 (.slice none 0 0)).set 1 (.slice none 0 0)
          simp only [List.set_cons_zero, List.set_cons_succ] at a3
          have z0 := a3.cell 0
          have z1 := a3.cell 1
          simp only [List.getElem?_cons_zero, List.getElem?_cons_succ] at z0 z1
          have hxf := (hx4.setCell (b := R) (i := 0) (by omega) (.slice none 0 0)).setCell (b := R) (i := 1) (by omega) (.slice none 0 0)
          clear r0 r1 l0 l1 a3
          refine bodyPost_ret (v := .tuple #[nilPk, .bool false]) ?_ rfl (outc_no HN.out ⟨rfl, hxf⟩)
          clear hxf
          generalize ((w4.setCell ⟨R, 0, none⟩ (.slice none 0 0)).setCell ⟨R, 1, none⟩ (.slice none 0 0)) = wf at z0 z1 ⊢
          simp [results, Tryd.results16, go_sem, z0, z1, nilPk]
        | true =>
          have HOK := hide hok
          go_wp2_with fail
          refine (refBytes_any sa ap ns np cs cp ⟨ss, ps⟩ w4 hstrs4 hphr4 hok (body_le hok)).mono ?_
          rintro e w5 ⟨rfl, he5⟩
          have hR5 := hR4.ext he5
          have hO5 := hO4.ext he5
          have hx5 := hx4.trans he5
          have hS5 := ownsExt hS4 he5
          have hP5 := ownsExt hP4 he5
          have hE5 := hE4.ext he5
          clear g0 g1 r0 r1 l0 l1 hR4 hO4 hx4 hS4 hP4 hE4 hstrs4 hphr4 hc2 hsp4 he5 hok
          have g0 : w5.cell? ⟨o, 0, none⟩ = some (.slice sa ns cs) := hO5.cell 0
          have g1 : w5.cell? ⟨o, 1, none⟩ = some (.slice ap np cp) := hO5.cell 1
          have r0 : w5.cell? ⟨R, 0, none⟩ = some (.slice none 0 0) := hR5.cell 0
          have r1 : w5.cell? ⟨R, 1, none⟩ = some (.slice none 0 0) := hR5.cell 1
          have l0 := hR5.frozen 0
          have l1 := hR5.frozen 1
          by_cases hb : packB ⟨ss, ps⟩ = s.data.toList
          · have HN : Hid (unp s = some ⟨ss, ps⟩) := by show _ = _; rw [HU.out, if_pos ⟨HOK.out, hb⟩]
            have hcm : (!((⟨(packB ⟨ss, ps⟩).toArray⟩ : ByteArray).toList == s.toList)) = false := by rw [toList_mk, hb, ByteArray.toList_eq]; simp
            generalize (⟨(packB ⟨ss, ps⟩).toArray⟩ : ByteArray) = bb at hcm
            clear hb HU
            go_wp2_with fail
            have a3 := hR5.set 0 (.slice sa ns cs)
            have a4 := a3.set 1 (.slice ap np cp)
            have s3 := ownsOther (u := .slice sa ns cs) hS5 hR5 (by decide) 0
            have s4 := ownsOther (u := .slice ap np cp) s3 a3 (by decide) 1
            have q3 := ownsOther (u := .slice sa ns cs) hP5 hR5 (by decide) 0
            have q4 := ownsOther (u := .slice ap np cp) q3 a3 (by decide) 1
            have e3 := hE5.other hR5 (by decide) (by decide) 0 (.slice sa ns cs)
            have e4 := e3.other a3 (by decide) (by decide) 1 (.slice ap np cp)
            simp only [List.set_cons_zero, List.set_cons_succ] at a4
            have hxf := (hx5.setCell (b := R) (i := 0) (by omega) (.slice sa ns cs)).setCell (b := R) (i := 1) (by omega) (.slice ap np cp)
            have z0 := a4.cell 0
            have z1 := a4.cell 1
            simp only [List.getElem?_cons_zero, List.getElem?_cons_succ] at z0 z1
            have hle : w.heap.size ≤ R + 3 := by omega
            clear r0 r1 l0 l1 a3 a4 s3 q3 e3
            refine bodyPost_ret (v := .tuple #[.agg #[.slice sa ns cs, .slice ap np cp], .bool true]) ?_ rfl (outc_yes HN.out ⟨_, rfl, ⟨sa, ns, cs, ap, np, cp, vs, rfl, ownsBase s4 hle, ownsBase q4 hle, e4.base hle⟩, HZP.out, hxf⟩)
            clear s4 q4 e4 hxf
            generalize ((w5.setCell ⟨R, 0, none⟩ (.slice sa ns cs)).setCell ⟨R, 1, none⟩ (.slice ap np cp)) = wf at z0 z1 ⊢
            simp [results, Tryd.results16, go_sem, z0, z1]
          · have HN : Hid (unp s = none) := by show _ = _; rw [HU.out, if_neg (fun h => hb h.2)]
            have hcm : (!((⟨(packB ⟨ss, ps⟩).toArray⟩ : ByteArray).toList == s.toList)) = true := by rw [toList_mk, ByteArray.toList_eq]; simpa using hb
            generalize (⟨(packB ⟨ss, ps⟩).toArray⟩ : ByteArray) = bb at hcm
            clear hb HU
            go_wp2_with fail
            have a3 := (hR5.set 0 (.slice none 0 0)).set 1 (.slice none 0 0)
            simp only [List.set_cons_zero, List.set_cons_succ] at a3
            have z0 := a3.cell 0
            have z1 := a3.cell 1
            simp only [List.getElem?_cons_zero, List.getElem?_cons_succ] at z0 z1
            have hxf := (hx5.setCell (b := R) (i := 0) (by omega) (.slice none 0 0)).setCell (b := R) (i := 1) (by omega) (.slice none 0 0)
            clear r0 r1 l0 l1 a3
            refine bodyPost_ret (v := .tuple #[nilPk, .bool false]) ?_ rfl (outc_no HN.out ⟨rfl, hxf⟩)
            clear hxf
            generalize ((w5.setCell ⟨R, 0, none⟩ (.slice none 0 0)).setCell ⟨R, 1, none⟩ (.slice none 0 0)) = wf at z0 z1 ⊢
            simp [results, Tryd.results16, go_sem, z0, z1, nilPk]

end Go.Proofs.YtkhenmpdlnhgjaaDoor
