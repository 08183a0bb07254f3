import Derived.Test.YtkhenmpdlnhgjaaDoorRefWithin2
import Derived.Deep.AppendSrc
import Derived.Deep.RegionHeld3
namespace Go.Proofs.YtkhenmpdlnhgjaaDoor
open Go.RowKit

def bcells (bs : List UInt8) : List Value := bs.map fun b => .int .u8 b.toNat
theorem length_bcells (bs : List UInt8) : (bcells bs).length = bs.length := by simp [bcells]
theorem bcells_append (a b : List UInt8) : bcells (a ++ b) = bcells a ++ bcells b := by simp [bcells]

/-- v is a list of these bytes, in memory of one's own from block B on. -/
def Own (B : Nat) (w : World) (v : Value) (bs : List UInt8) : Prop := w.ownsRow B 5 1 v bs.length (bcells bs)
/-- .. or in a row that is full (whatever is frozen of it). -/
def Full (B : Nat) (w : World) (v : Value) (bs : List UInt8) : Prop := ∃ g fr, v = .slice (some ⟨g, 0, none⟩) bs.length bs.length ∧ B ≤ g ∧ w.heap[g]? = some (.cells (bcells bs).toArray 5 fr)
def Buf (B : Nat) (w : World) (v : Value) (bs : List UInt8) : Prop := Own B w v bs ∨ Full B w v bs
/-- From w, v to w', v': of what was there only v's own row may have turned; v' lies there or in new memory. -/
structure Onto (w : World) (v : Value) (w' : World) (v' : Value) : Prop where
  grown : w.grownBy w' v.ownBlock
  own : v'.ownBlock = v.ownBlock ∨ ∃ k, w.heap.size ≤ k ∧ v'.ownBlock = some k
theorem Onto.refl (w : World) (v : Value) : Onto w v w v := ⟨⟨rfl, rfl, rfl, Nat.le_refl _, fun _ _ _ => rfl⟩, .inl rfl⟩
theorem Onto.ne {w w' : World} {v v' : Value} (h : Onto w v w' v') {b : Nat} (hb : b < w.heap.size) (hne : some b ≠ v.ownBlock) : some b ≠ v'.ownBlock := by
  rcases h.own with e | ⟨k, hk, e⟩
  · rw [e]; exact hne
  · rw [e]; intro e'; cases e'; omega
theorem Onto.trans {w w1 w2 : World} {v v1 v2 : Value} (h : Onto w v w1 v1) (k : Onto w1 v1 w2 v2) : Onto w v w2 v2 := by
  refine ⟨⟨k.grown.os.trans h.grown.os, k.grown.tape.trans h.grown.tape, k.grown.output.trans h.grown.output, Nat.le_trans h.grown.size k.grown.size, fun b hb hne => ?_⟩, ?_⟩
  · rw [k.grown.block b (Nat.lt_of_lt_of_le hb h.grown.size) (h.ne hb hne), h.grown.block b hb hne]
  · rcases k.own with e | ⟨b, hb, e⟩
    · rw [e]; exact h.own
    · exact .inr ⟨b, Nat.le_trans h.grown.size hb, e⟩
theorem Onto.of_ext {w w' : World} {v : Value} (h : Ext w w') : Onto w v w' v := ⟨⟨h.os, h.tape, h.output, h.size, fun b hb _ => h.block b hb⟩, .inl rfl⟩
theorem Onto.block {w w' : World} {v v' : Value} (h : Onto w v w' v') {b : Nat} (hb : b < w.heap.size) (hne : some b ≠ v.ownBlock) : w'.heap[b]? = w.heap[b]? := h.grown.block b hb hne
theorem Onto.cell {w w' : World} {v v' : Value} (h : Onto w v w' v') {b o : Nat} {x : Value} (hc : w.cell? ⟨b, o, none⟩ = some x) (hne : some b ≠ v.ownBlock) : w'.cell? ⟨b, o, none⟩ = some x := h.grown.cell hc hne
theorem Buf.lt {B : Nat} {w : World} {v : Value} {bs : List UInt8} (h : Buf B w v bs) : ∀ k, v.ownBlock = some k → B ≤ k ∧ k < w.heap.size := by
  rcases h with h | ⟨g, fr, rfl, h1, h2⟩
  · exact World.ownsRow.lt h
  · intro k hk; cases hk; exact ⟨h1, (Array.getElem?_eq_some_iff.1 h2).1⟩
theorem Buf.below {B : Nat} {w w' : World} {v v' : Value} {bs : List UInt8} (h : Buf B w v bs) (k : Onto w v w' v') (hB : B ≤ w.heap.size) : Below B w w' :=
  ⟨k.grown.os, k.grown.tape, k.grown.output, k.grown.size, fun b hb => k.grown.block b (by omega) (fun e => by have := (h.lt b e.symm).1; omega)⟩
theorem Buf.ext {B : Nat} {w w' : World} {v : Value} {bs : List UInt8} (h : Buf B w v bs) (e : Ext w w') : Buf B w' v bs := by
  rcases h with h | ⟨g, fr, rfl, h1, h2⟩
  · refine .inl ⟨h.1, ?_⟩
    rcases h.2 with h2 | ⟨g, cap, cur, h3, h4, h5, h6⟩
    · exact .inl h2
    · exact .inr ⟨g, cap, cur, h3, h4, by rw [e.block g (Array.getElem?_eq_some_iff.1 h5).1]; exact h5, h6⟩
  · exact .inr ⟨g, fr, rfl, h1, by rw [e.block g (Array.getElem?_eq_some_iff.1 h2).1]; exact h2⟩
theorem Buf.cells {B : Nat} {w : World} {g n c : Nat} {bs : List UInt8} (h : Buf B w (.slice (some ⟨g, 0, none⟩) n c) bs) : ∀ j u, (bcells bs)[j]? = some u → w.cell? ((⟨g, 0, none⟩ : Addr).add j) = some u := by
  rcases h with h | ⟨g', fr, he, h1, h2⟩
  · exact World.ownsRow.cells h (g := g) rfl
  · cases he
    intro j u hj
    have hadd : (⟨g, 0, none⟩ : Addr).add j = ⟨g, j, none⟩ := by
      unfold Addr.add; split
      · next e => subst e; rfl
      · simp
    rw [hadd]
    unfold World.cell?
    rw [h2]
    simpa using hj
theorem info_u8 : Tryd.prog.info? 5 = some Tryd.t5 := by kernel_rfl

theorem bytes_u8 : Tryd.t5.bytes = 1 := by kernel_rfl
theorem size_u8 : Tryd.t5.size = 1 := by kernel_rfl
theorem zero_u8 : Tryd.t5.zero = some (.int .u8 0) := by kernel_rfl

theorem append_room_row {w : World} (tx ty : TypeId) (g sLen sCap : Nat) (cur : Array Value) (hg : w.heap[g]? = some (.cells cur 5 (0, 0))) (hcs : cur.size = sCap) (x : Value) (n : Nat) (news : List Value)
    (hs : Src Tryd.prog 1 tx x n news w) (hroom : sLen + n ≤ sCap) :
    (Builtin.append_ #[44, tx] ty #[.slice (some ⟨g, 0, none⟩) sLen sCap, x]).run Tryd.prog w = .ok (.slice (some ⟨g, 0, none⟩) (sLen + n) sCap) (w.setRow g (cur.toList.take sLen ++ news ++ cur.toList.drop (sLen + n)).toArray) := by
  have hl : news.length = n := by simpa using hs.newsLen
  have hst := run_storeCells_at Tryd.prog g sLen 5 news 0 cur w hg (by omega) hs.one
  simp only [Nat.add_zero, hl] at hst
  have ht := Tryd.underlying44
  rcases hs.kind with ⟨e', hk⟩ | hk <;> simp [Builtin.append_, run_underlying ht, run_underlying hk, sizeOf, typeInfo, info_u8, size_u8, hs.len, hroom, hs.cells, Addr.add_lit, hst]

theorem append_onto {B : Nat} {w : World} {v : Value} {bs : List UInt8} (h : Buf B w v bs) (hB : B ≤ w.heap.size) (tx ty : TypeId) (x : Value) (new : List UInt8)
    (hs : Src Tryd.prog 1 tx x new.length (bcells new) w) (hl : bs.length + new.length ≤ 140737488355328) :
    ∃ v' w', (Builtin.append_ #[44, tx] ty #[v, x]).run Tryd.prog w = .ok v' w' ∧ Buf B w' v' (bs ++ new) ∧ Onto w v w' v' := by
  have hbuf := h
  have ht := Tryd.underlying44
  have hlen : (bcells (bs ++ new)).length = (bs ++ new).length * 1 := by rw [length_bcells, Nat.mul_one]
  -- a new row
  have grown : ∀ (old : Nat), old < bs.length + new.length → ∀ (row : Option Nat),
      (w.drew.alloc (.cells ((bcells bs ++ bcells new).toArray ++ Builtin.zeroCells (Value.int .u8 0).cells (grownCap w (bs.length + new.length) old 5 - (bs.length + new.length))) 5)).ownsRow B 5 1
        (.slice (some ⟨w.heap.size, 0, none⟩) (bs.length + new.length) (grownCap w (bs.length + new.length) old 5)) (bs ++ new).length (bcells (bs ++ new)) ∧
      w.grownBy (w.drew.alloc (.cells ((bcells bs ++ bcells new).toArray ++ Builtin.zeroCells (Value.int .u8 0).cells (grownCap w (bs.length + new.length) old 5 - (bs.length + new.length))) 5)) row := by
    intro old ho row
    have hge := grownCap_ge w (bs.length + new.length) old 5
    have hcm : grownCap w (bs.length + new.length) old 5 ≤ maxLen := grownCap_le_maxLen w (bs.length + new.length) old 5 (by unfold maxLen; omega)
    refine ⟨⟨hlen, .inr ⟨w.heap.size, _, _, by rw [List.length_append], hB, heap_alloc_new w.drew _, by rw [List.length_append]; exact hge, hcm, ?_, ?_⟩⟩, ⟨rfl, rfl, rfl, by simp, fun k hk _ => Below.heap_alloc w.drew _ k hk⟩⟩
    · simp only [Array.size_append, List.size_toArray, size_zeroCells, List.length_append, length_bcells]
      simp [Value.cells]
      omega
    · rw [← hlen, bcells_append]
      simp only [Array.toList_append]
      exact List.take_left
  rcases h with h | ⟨g, fr, rfl, hbg, hg⟩
  case inr =>
    by_cases hm : new.length = 0
    · have hnew : new = [] := List.eq_nil_of_length_eq_zero hm
      subst hnew
      refine ⟨.slice (some ⟨g, 0, none⟩) bs.length bs.length, w, ?_, by rw [List.append_nil]; exact hbuf, Onto.refl _ _⟩
      have hl0 := hs.len
      have hc0 := hs.cells
      simp only [List.length_nil] at hl0 hc0
      rcases hs.kind with ⟨e', hk⟩ | hk <;> simp [Builtin.append_, run_underlying ht, run_underlying hk, sizeOf, typeInfo, info_u8, size_u8, hl0, hc0, bcells, storeCells]
    · have hr := run_append_grow_src (P := Tryd.prog) (w := w) 44 tx ty 5 Tryd.t5 (.int .u8 0) ht info_u8 zero_u8 (some ⟨g, 0, none⟩) bs.length bs.length (bcells bs) (by rw [size_u8]; exact run_firstCells_some w.drew 1 bs.length ⟨g, 0, none⟩ bs.length bs.length (bcells bs) (by rw [length_bcells, Nat.mul_one]) hbuf.cells) x new.length (bcells new) (by rw [size_u8]; exact hs) (by omega) (by omega) (by rw [bytes_u8]; exact growslice_fits (by omega) (by omega))
      have hgr := grown bs.length (by omega) (Value.ownBlock (.slice (some ⟨g, 0, none⟩) bs.length bs.length))
      exact ⟨_, _, hr, .inl hgr.1, ⟨hgr.2, .inr ⟨w.heap.size, Nat.le_refl _, rfl⟩⟩⟩
  rcases h.2 with ⟨rfl, hn0⟩ | ⟨g, cap, cur, rfl, hbg, hg, hnc, hcm, hcs, htake⟩
  · have hbs : bs = [] := List.eq_nil_of_length_eq_zero hn0
    subst hbs
    by_cases hm : new.length = 0
    · have hnew : new = [] := List.eq_nil_of_length_eq_zero hm
      subst hnew
      refine ⟨.slice none 0 0, w, ?_, hbuf, Onto.refl _ _⟩
      have hl0 := hs.len
      have hc0 := hs.cells
      simp only [List.length_nil] at hl0 hc0
      rcases hs.kind with ⟨e', hk⟩ | hk <;> simp [Builtin.append_, run_underlying ht, run_underlying hk, sizeOf, typeInfo, info_u8, size_u8, hl0, hc0]
    · have hr := run_append_grow_src (P := Tryd.prog) (w := w) 44 tx ty 5 Tryd.t5 (.int .u8 0) ht info_u8 zero_u8 Option.none 0 0 [] (by rw [size_u8]; exact run_firstCells_none w.drew 1 0 0 0) x new.length (bcells new) (by rw [size_u8]; exact hs) (by omega) (by simp at hl; omega) (by rw [bytes_u8]; exact growslice_fits (by omega) (by simpa using hl))
      have hgr := grown 0 (by simp; omega) (Value.ownBlock (.slice none 0 0))
      simp only [List.length_nil, bcells, List.map_nil, List.nil_append] at hgr hr ⊢
      exact ⟨_, _, hr, .inl hgr.1, ⟨hgr.2, .inr ⟨w.heap.size, Nat.le_refl _, rfl⟩⟩⟩
  · by_cases hroom : bs.length + new.length ≤ cap
    · have hr := append_room_row tx ty g bs.length cap cur hg (by omega) x new.length (bcells new) hs hroom
      refine ⟨_, _, hr, .inl ⟨hlen, .inr ⟨g, cap, _, by rw [List.length_append], hbg, setRow_heap w g cur _ _ _ hg, by rw [List.length_append]; exact hroom, hcm, ?_, ?_⟩⟩, ⟨⟨rfl, rfl, rfl, by simp [World.setRow], fun k _ hk => setRow_other w g k _ (fun e => hk (by simp [Value.ownBlock, e]))⟩, .inl rfl⟩⟩
      · simp only [List.size_toArray, List.length_append, List.length_take, List.length_drop, Array.length_toList, length_bcells]
        omega
      · simp only [Nat.mul_one] at htake
        rw [← hlen, htake, bcells_append]
        exact List.take_left
    · have holds : ∀ j u, (bcells bs)[j]? = some u → w.drew.cell? ((⟨g, 0, none⟩ : Addr).add j) = some u := fun j u hj => World.ownsRow.cells h (g := g) rfl j u hj
      have hr := run_append_grow_src (P := Tryd.prog) (w := w) 44 tx ty 5 Tryd.t5 (.int .u8 0) ht info_u8 zero_u8 (some ⟨g, 0, none⟩) bs.length cap (bcells bs) (by rw [size_u8]; exact run_firstCells_some w.drew 1 bs.length ⟨g, 0, none⟩ bs.length cap (bcells bs) (by rw [length_bcells, Nat.mul_one]) holds) x new.length (bcells new) (by rw [size_u8]; exact hs) (by omega) (by omega) (by rw [bytes_u8]; exact growslice_fits (by omega) (by omega))
      have hgr := grown cap (by omega) (Value.ownBlock (.slice (some ⟨g, 0, none⟩) bs.length cap))
      exact ⟨_, _, hr, .inl hgr.1, ⟨hgr.2, .inr ⟨w.heap.size, Nat.le_refl _, rfl⟩⟩⟩

/-- The same as a step of the walk. -/
theorem wpList_append_onto {w : World} {ops : Array Oper} {rest : List Oper} {o : Oper} {a : Act} {Q : Exit → Act → World → Prop} (hgd : o.guard = none) (s x : Operand) (tx : TypeId)
    (ho : o.op = .call { callee := .builtin .append, args := #[s, x], argTypes := #[44, tx] }) {B : Nat} {v : Value} {bs : List UInt8} (hv : a.eval s = v) (h : Buf B w v bs) (hB : B ≤ w.heap.size)
    (xv : Value) (hx : a.eval x = xv) (new : List UInt8) (hs : Src Tryd.prog 1 tx xv new.length (bcells new) w) (hl : bs.length + new.length ≤ 140737488355328)
    (hk : ∀ v' w', Buf B w' v' (bs ++ new) → Onto w v w' v' → wpList Tryd.prog ops Q rest (a.put o.dst v') w') : wpList Tryd.prog ops Q (o :: rest) a w := by
  refine wpList_plain hgd fun K hK => ?_
  obtain ⟨v', w', hr, h2, h3⟩ := append_onto h hB tx o.type xv new hs hl
  unfold Oper.wp execOp
  simp only [ho, resolve, invoke, builtin, Sem.run_bind, Sem.run_pure, Result.andThen_ok, List.map_toArray, List.map_cons, List.map_nil, hv, hx, hr]
  exact hK _ _ (hk v' w' h2 h3)
/-- A byte in a new block, as what is appended. -/
theorem src_byte (w : World) (x : UInt8) (c : Nat) : Src Tryd.prog 1 44 (.slice (some ⟨w.heap.size, 0, none⟩) 1 c) [x].length (bcells [x]) (w.alloc (.cells #[.int .u8 x.toNat] 5)) :=
  Src.ofSlice _ Tryd.underlying44 ⟨w.heap.size, 0, none⟩ 1 c (bcells [x]) (by simp [bcells]) (by
    intro j u hj
    cases j with
    | zero =>
      simp [bcells] at hj; subst hj
      exact (OwnRow.alloc w [.int .u8 x.toNat] 5).cell 0
    | succ j => simp [bcells] at hj) (by simp [bcells, Value.oneCell'])
theorem src_byteI (w : World) (x : UInt8) (y : Int) (hy : (x.toNat : Int) = y) (c : Nat) : Src Tryd.prog 1 44 (.slice (some ⟨w.heap.size, 0, none⟩) 1 c) [x].length (bcells [x]) (w.alloc (.cells #[.int .u8 y] 5)) := by
  subst hy; exact src_byte w x c
theorem src_string (w : World) (s : ByteArray) : Src Tryd.prog 1 9 (.string s) s.data.toList.length (bcells s.data.toList) w := by
  have := Src.ofString (P := Tryd.prog) w Tryd.underlying9 s
  have e : s.data.toList.length = s.size := rfl
  rw [e]
  exact this

end Go.Proofs.YtkhenmpdlnhgjaaDoor
