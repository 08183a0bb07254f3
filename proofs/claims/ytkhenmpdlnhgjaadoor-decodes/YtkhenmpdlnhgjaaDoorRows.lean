/-
  NARROWER THAN 'FOR EVERY INPUT', by the rows' own cells (each row's printed sentence says how): Decodes: laid · Round: laid · Refused: laid.
  DERIVED. THE GIVEN ROWS OF THIS SEAT. 3 by the template 'for every input the law returns true; each argument reads behind the call as it read before'; 0 by the template 'total and deterministic' (their statements: YtkhenmpdlnhgjaaDoorTotals.lean).
  GIVEN WITH THE SEED: the statements are not yours to turn. If you find one false, say at which input.
  Laid BY PROGRAM, IN A SANDBOX (cutbox-rows.mjs): the forced cells as the released guide's own fill.sh prints them over the translation 58f2280182eafc5d… (all of the seat's roots in one cut). By AI agents, Wed Nov 11 2026. No macro, syntax, notation, axiom, sorry.
-/
import Derived.Test.YtkhenmpdlnhgjaaDoorChecked
import GoSem.Claim
import GoSem.ClaimJoined
import GoSem.ClaimMapViews
import Derived.JoinedTies
import Derived.KernelRfl
namespace Go.Proofs.YtkhenmpdlnhgjaaDoor
/- THE CELL 'sum', in the pinned program and in every row, IS THE sha256 OF THE DUMP (.gsa) THAT YtkhenmpdlnhgjaaDoorProg.lean LOADS. Nothing in Lean hashes anything: it is a label: what it is worth is what the hold of that sum in a sandbox is worth. -/
noncomputable def Tryd.pinned : Pinned := { name := "ytkhenmpdlnhgjaadoor", sum := "58f2280182eafc5d45c75f1470068f80efad9179fb0754b1a47867bdda940939", checked := Tryd.checked }
namespace Rows
def none {H : Type} : Left H := { results := [], args := [] }

/- WHAT THE LISTED PACKAGE-LEVEL VARIABLES READ AS WHEN THE CALL BEGINS. Each datum BY PROGRAM (the guide's laid-datum.mjs) off the statement by which the dump's own 'gosem.cut.vars' lays the variable. In a bare row this is a premise. The card (YtkhenmpdlnhgjaaDoorCards.lean) ties it to the program's text. -/
def laid_phrasebook_wire_errNoPack {H : Type} : DataW H := .iface "*errors.errorString" (.ptr (.agg [.lit (.string [119, 105, 114, 101, 58, 32, 110, 111, 116, 32, 116, 104, 101, 32, 98, 121, 116, 101, 115, 32, 111, 102, 32, 97, 32, 112, 97, 99, 107, 32, 119, 105, 116, 104, 105, 110, 32, 116, 104, 101, 32, 108, 105, 109, 105, 116, 115])]))
def laid_phrasebook_page_ways {H : Type} : DataW H := .agg [.agg [.lit (.int .i64 0), .lit (.int .u8 0), .lit (.int .u8 59), .lit (.int .i64 0)], .agg [.lit (.int .i64 0), .lit (.int .u8 60), .lit (.int .u8 60), .lit (.int .i64 1)], .agg [.lit (.int .i64 0), .lit (.int .u8 61), .lit (.int .u8 255), .lit (.int .i64 0)], .agg [.lit (.int .i64 1), .lit (.int .u8 97), .lit (.int .u8 122), .lit (.int .i64 4)], .agg [.lit (.int .i64 1), .lit (.int .u8 47), .lit (.int .u8 47), .lit (.int .i64 2)], .agg [.lit (.int .i64 2), .lit (.int .u8 97), .lit (.int .u8 122), .lit (.int .i64 3)], .agg [.lit (.int .i64 3), .lit (.int .u8 97), .lit (.int .u8 122), .lit (.int .i64 3)], .agg [.lit (.int .i64 3), .lit (.int .u8 48), .lit (.int .u8 57), .lit (.int .i64 3)], .agg [.lit (.int .i64 3), .lit (.int .u8 62), .lit (.int .u8 62), .lit (.int .i64 0)], .agg [.lit (.int .i64 4), .lit (.int .u8 97), .lit (.int .u8 122), .lit (.int .i64 4)], .agg [.lit (.int .i64 4), .lit (.int .u8 48), .lit (.int .u8 57), .lit (.int .i64 4)], .agg [.lit (.int .i64 4), .lit (.int .u8 32), .lit (.int .u8 32), .lit (.int .i64 5)], .agg [.lit (.int .i64 4), .lit (.int .u8 62), .lit (.int .u8 62), .lit (.int .i64 0)], .agg [.lit (.int .i64 5), .lit (.int .u8 32), .lit (.int .u8 32), .lit (.int .i64 5)], .agg [.lit (.int .i64 5), .lit (.int .u8 97), .lit (.int .u8 122), .lit (.int .i64 6)], .agg [.lit (.int .i64 5), .lit (.int .u8 62), .lit (.int .u8 62), .lit (.int .i64 0)], .agg [.lit (.int .i64 6), .lit (.int .u8 97), .lit (.int .u8 122), .lit (.int .i64 6)], .agg [.lit (.int .i64 6), .lit (.int .u8 45), .lit (.int .u8 45), .lit (.int .i64 6)], .agg [.lit (.int .i64 6), .lit (.int .u8 61), .lit (.int .u8 61), .lit (.int .i64 7)], .agg [.lit (.int .i64 7), .lit (.int .u8 34), .lit (.int .u8 34), .lit (.int .i64 8)], .agg [.lit (.int .i64 8), .lit (.int .u8 0), .lit (.int .u8 33), .lit (.int .i64 8)], .agg [.lit (.int .i64 8), .lit (.int .u8 34), .lit (.int .u8 34), .lit (.int .i64 9)], .agg [.lit (.int .i64 8), .lit (.int .u8 35), .lit (.int .u8 59), .lit (.int .i64 8)], .agg [.lit (.int .i64 8), .lit (.int .u8 61), .lit (.int .u8 255), .lit (.int .i64 8)], .agg [.lit (.int .i64 9), .lit (.int .u8 32), .lit (.int .u8 32), .lit (.int .i64 5)], .agg [.lit (.int .i64 9), .lit (.int .u8 62), .lit (.int .u8 62), .lit (.int .i64 0)]]

/-- 'phrasebooklaw.Decodes': WHATEVER THE INPUT: true; the input reads as it did. -/
def decodesSpec : ChangeSpec := { name := "decodes", fn := fun _ => fun
  | [d] => { results := [.lit (.bool true)], args := [d] }
  | _ => none }
def decodesRow : OpenClaim := { program := "ytkhenmpdlnhgjaadoor", sum := "58f2280182eafc5d45c75f1470068f80efad9179fb0754b1a47867bdda940939", func := "phrasebook/phrasebooklaw.Decodes", spec := "decodes", unfollowed := true, recurses := true, named := ["phrasebook/wire.errNoPack"], apart := false, laid := [("phrasebook/wire.errNoPack", laid_phrasebook_wire_errNoPack)] }
def DecodesSaid : Prop := decodesRow.holds Tryd.pinned (OpenSpec.ofChange decodesSpec)

/-- ITS FALSE NEIGHBOUR: 'it returns false'. Refute it at one input. -/
def decodesWrong : ChangeSpec := { name := "decodes", fn := fun _ => fun
  | [d] => { results := [.lit (.bool false)], args := [d] }
  | _ => none }
def DecodesWrongFalsely : Prop := decodesRow.holds Tryd.pinned (OpenSpec.ofChange decodesWrong)

/-- 'phrasebookkeep.Round': WHATEVER THE INPUT: true; the input reads as it did. -/
def roundSpec : ChangeSpec := { name := "round", fn := fun _ => fun
  | [d1, d2, d3, d4] => { results := [.lit (.bool true)], args := [d1, d2, d3, d4] }
  | _ => none }
def roundRow : OpenClaim := { program := "ytkhenmpdlnhgjaadoor", sum := "58f2280182eafc5d45c75f1470068f80efad9179fb0754b1a47867bdda940939", func := "phrasebook/phrasebookkeep.Round", spec := "round", unfollowed := true, recurses := true, named := ["phrasebook/wire.errNoPack"], apart := false, laid := [("phrasebook/wire.errNoPack", laid_phrasebook_wire_errNoPack)] }
def RoundSaid : Prop := roundRow.holds Tryd.pinned (OpenSpec.ofChange roundSpec)

/-- ITS FALSE NEIGHBOUR: 'it returns false'. Refute it at one input. -/
def roundWrong : ChangeSpec := { name := "round", fn := fun _ => fun
  | [d1, d2, d3, d4] => { results := [.lit (.bool false)], args := [d1, d2, d3, d4] }
  | _ => none }
def RoundWrongFalsely : Prop := roundRow.holds Tryd.pinned (OpenSpec.ofChange roundWrong)

/-- 'phrasebookkeep.Refused': WHATEVER THE INPUT: true; the input reads as it did. -/
def refusedSpec : ChangeSpec := { name := "refused", fn := fun _ => fun
  | [d1, d2] => { results := [.lit (.bool true)], args := [d1, d2] }
  | _ => none }
def refusedRow : OpenClaim := { program := "ytkhenmpdlnhgjaadoor", sum := "58f2280182eafc5d45c75f1470068f80efad9179fb0754b1a47867bdda940939", func := "phrasebook/phrasebookkeep.Refused", spec := "refused", inPlace := ["(*sync.WaitGroup).Add", "internal/race.ReleaseMerge", "internal/race.Disable", "internal/race.Enable", "internal/synctest.IsInBubble", "internal/synctest.Associate[sync.WaitGroup]", "sync.fatal", "sync/atomic.OrUint64", "sync/atomic.AddUint64", "internal/race.Read", "sync/atomic.LoadUint64", "sync/atomic.StoreUint64", "internal/synctest.Disassociate[sync.WaitGroup]", "sync.runtime_Semrelease", "(*sync.WaitGroup).Done", "(*sync.WaitGroup).Wait", "internal/race.Acquire", "internal/synctest.IsAssociated[sync.WaitGroup]", "sync/atomic.CompareAndSwapUint64", "internal/race.Write", "sync.runtime_SemacquireWaitGroup"], unfollowed := true, recurses := true, named := ["phrasebook/wire.errNoPack", "phrasebook/page.ways"], apart := false, laid := [("phrasebook/page.ways", laid_phrasebook_page_ways), ("phrasebook/wire.errNoPack", laid_phrasebook_wire_errNoPack)] }
def RefusedSaid : Prop := refusedRow.holds Tryd.pinned (OpenSpec.ofChange refusedSpec)

/-- ITS FALSE NEIGHBOUR: 'it returns false'. Refute it at one input. -/
def refusedWrong : ChangeSpec := { name := "refused", fn := fun _ => fun
  | [d1, d2] => { results := [.lit (.bool false)], args := [d1, d2] }
  | _ => none }
def RefusedWrongFalsely : Prop := refusedRow.holds Tryd.pinned (OpenSpec.ofChange refusedWrong)

/- THE SECOND FORM. 'bulk': how many values and letters a reading holds, each counted each time it is reached (what is shared counts as often as it is met; a slice's spare places count too). A statement '..UptoSaid' is the law's where the arguments, and the package variables that the reading takes, are together of bulk at most 1048576: NARROWER than '..Said'. Prove '..Said' where nothing that the law and all that it calls make is longer than what came in: it says more and counts as full. Else prove '..UptoSaid'. A law counts once. -/
mutual
def uptoBulk {H : Type} : DataW H → Nat
  | .lit (.string bytes) => bytes.length + 1
  | .lit _ => 1
  | .nil => 1
  | .ptr d => uptoBulk d + 1
  | .slice elems spare => uptoBulkAll elems + uptoBulkAll spare + 1
  | .agg parts => uptoBulkAll parts + 1
  | .iface _ d => uptoBulk d + 1
  | .map entries => uptoBulkEntries entries + 1
  | .held _ => 1
def uptoBulkAll {H : Type} : List (DataW H) → Nat
  | [] => 0
  | d :: r => uptoBulk d + uptoBulkAll r
def uptoBulkEntries {H : Type} : List (Lit × DataW H) → Nat
  | [] => 0
  | x :: r => uptoBulkEntry x + uptoBulkEntries r
def uptoBulkEntry {H : Type} : Lit × DataW H → Nat
  | (.string bytes, d) => bytes.length + uptoBulk d + 1
  | (_, d) => uptoBulk d + 1
 end
def uptoSmall : (H : Type) → List (DataW H) → Bool := fun _ ds => decide (uptoBulkAll ds ≤ 1048576)
def OpenSpec.upto (s : _root_.Go.ChangeSpec) : _root_.Go.OpenSpec := { _root_.Go.OpenSpec.ofChange s with cond := some uptoSmall }

/-- 'phrasebooklaw.Decodes', WHERE WHAT IT READS IS OF BULK AT MOST 1048576: true; the input reads as it did. -/
def decodesUptoRow : OpenClaim := { program := "ytkhenmpdlnhgjaadoor", sum := "58f2280182eafc5d45c75f1470068f80efad9179fb0754b1a47867bdda940939", func := "phrasebook/phrasebooklaw.Decodes", spec := "decodes", unfollowed := true, recurses := true, named := ["phrasebook/wire.errNoPack"], apart := false, laid := [("phrasebook/wire.errNoPack", laid_phrasebook_wire_errNoPack)], narrowed := true }
def DecodesUptoSaid : Prop := decodesUptoRow.holds Tryd.pinned (OpenSpec.upto decodesSpec)

/-- 'phrasebookkeep.Round', WHERE WHAT IT READS IS OF BULK AT MOST 1048576: true; the input reads as it did. -/
def roundUptoRow : OpenClaim := { program := "ytkhenmpdlnhgjaadoor", sum := "58f2280182eafc5d45c75f1470068f80efad9179fb0754b1a47867bdda940939", func := "phrasebook/phrasebookkeep.Round", spec := "round", unfollowed := true, recurses := true, named := ["phrasebook/wire.errNoPack"], apart := false, laid := [("phrasebook/wire.errNoPack", laid_phrasebook_wire_errNoPack)], narrowed := true }
def RoundUptoSaid : Prop := roundUptoRow.holds Tryd.pinned (OpenSpec.upto roundSpec)

/-- 'phrasebookkeep.Refused', WHERE WHAT IT READS IS OF BULK AT MOST 1048576: true; the input reads as it did. -/
def refusedUptoRow : OpenClaim := { program := "ytkhenmpdlnhgjaadoor", sum := "58f2280182eafc5d45c75f1470068f80efad9179fb0754b1a47867bdda940939", func := "phrasebook/phrasebookkeep.Refused", spec := "refused", inPlace := ["(*sync.WaitGroup).Add", "internal/race.ReleaseMerge", "internal/race.Disable", "internal/race.Enable", "internal/synctest.IsInBubble", "internal/synctest.Associate[sync.WaitGroup]", "sync.fatal", "sync/atomic.OrUint64", "sync/atomic.AddUint64", "internal/race.Read", "sync/atomic.LoadUint64", "sync/atomic.StoreUint64", "internal/synctest.Disassociate[sync.WaitGroup]", "sync.runtime_Semrelease", "(*sync.WaitGroup).Done", "(*sync.WaitGroup).Wait", "internal/race.Acquire", "internal/synctest.IsAssociated[sync.WaitGroup]", "sync/atomic.CompareAndSwapUint64", "internal/race.Write", "sync.runtime_SemacquireWaitGroup"], unfollowed := true, recurses := true, named := ["phrasebook/wire.errNoPack", "phrasebook/page.ways"], apart := false, laid := [("phrasebook/page.ways", laid_phrasebook_page_ways), ("phrasebook/wire.errNoPack", laid_phrasebook_wire_errNoPack)], narrowed := true }
def RefusedUptoSaid : Prop := refusedUptoRow.holds Tryd.pinned (OpenSpec.upto refusedSpec)

end Rows
end Go.Proofs.YtkhenmpdlnhgjaaDoor
