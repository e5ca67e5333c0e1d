/-
  NARROWER THAN 'FOR EVERY INPUT', by the rows' own cells (each row's printed sentence says how): LeavesTell: loops · LeavesMove: loops · LeavesApart: loops · LeavesCount: loops.
  DERIVED. THE GIVEN ROWS OF THIS SEAT. 4 by the template 'for every input the law returns true; each argument reads behind the call as it read before'; 0 by the template 'total and deterministic' (their statements: YtdgnengfcabgjaaTotals.lean).
  GIVEN WITH THE SEED: the statements are not yours to turn. If you find one false, say at which input.
  Laid BY PROGRAM, IN A SANDBOX (cutbox-rows.mjs): the forced cells as the released guide's own fill.sh prints them over the translation 780f550fdf08c419… (all of the seat's roots in one cut). By AI agents, Wed Nov 11 2026. No macro, syntax, notation, axiom, sorry.
-/
import Derived.Test.YtdgnengfcabgjaaChecked
import GoSem.Claim
import GoSem.ClaimJoined
import GoSem.ClaimMapViews
import Derived.JoinedTies
import Derived.KernelRfl
namespace Go.Proofs.Ytdgnengfcabgjaa
/- THE CELL 'sum', in the pinned program and in every row, IS THE sha256 OF THE DUMP (.gsa) THAT YtdgnengfcabgjaaProg.lean LOADS. Nothing in Lean hashes anything: it is a label: what it is worth is what the hold of that sum in a sandbox is worth. -/
noncomputable def Try.pinned : Pinned := { name := "ytdgnengfcabgjaa", sum := "780f550fdf08c4195bafe6da7ec95eefbed2e591b1ed8eaf163a90c8bb3b13de", checked := Try.checked }
namespace Rows
def none {H : Type} : Left H := { results := [], args := [] }

/-- 'cabochonlaw03.LeavesTell': WHATEVER THE INPUT: true; the input reads as it did. -/
def leavesTellSpec : ChangeSpec := { name := "leavesTell", fn := fun _ => fun
  | [d1, d2, d3] => { results := [.lit (.bool true)], args := [d1, d2, d3] }
  | _ => none }
def leavesTellRow : OpenClaim := { program := "ytdgnengfcabgjaa", sum := "780f550fdf08c4195bafe6da7ec95eefbed2e591b1ed8eaf163a90c8bb3b13de", func := "cabochon/cabochonlaw03.LeavesTell", spec := "leavesTell", inPlace := ["internal/bytealg.abigen_runtime_cmpstring"], unfollowed := true, recurses := true, loops := true, apart := false }
def LeavesTellSaid : Prop := leavesTellRow.holds Try.pinned (OpenSpec.ofChange leavesTellSpec)

/-- ITS FALSE NEIGHBOUR: 'it returns false'. Refute it at one input. -/
def leavesTellWrong : ChangeSpec := { name := "leavesTell", fn := fun _ => fun
  | [d1, d2, d3] => { results := [.lit (.bool false)], args := [d1, d2, d3] }
  | _ => none }
def LeavesTellWrongFalsely : Prop := leavesTellRow.holds Try.pinned (OpenSpec.ofChange leavesTellWrong)

/-- 'cabochonlaw03.LeavesMove': WHATEVER THE INPUT: true; the input reads as it did. -/
def leavesMoveSpec : ChangeSpec := { name := "leavesMove", fn := fun _ => fun
  | [d1, d2, d3, d4] => { results := [.lit (.bool true)], args := [d1, d2, d3, d4] }
  | _ => none }
def leavesMoveRow : OpenClaim := { program := "ytdgnengfcabgjaa", sum := "780f550fdf08c4195bafe6da7ec95eefbed2e591b1ed8eaf163a90c8bb3b13de", func := "cabochon/cabochonlaw03.LeavesMove", spec := "leavesMove", inPlace := ["internal/bytealg.abigen_runtime_cmpstring"], unfollowed := true, recurses := true, loops := true, apart := false }
def LeavesMoveSaid : Prop := leavesMoveRow.holds Try.pinned (OpenSpec.ofChange leavesMoveSpec)

/-- ITS FALSE NEIGHBOUR: 'it returns false'. Refute it at one input. -/
def leavesMoveWrong : ChangeSpec := { name := "leavesMove", fn := fun _ => fun
  | [d1, d2, d3, d4] => { results := [.lit (.bool false)], args := [d1, d2, d3, d4] }
  | _ => none }
def LeavesMoveWrongFalsely : Prop := leavesMoveRow.holds Try.pinned (OpenSpec.ofChange leavesMoveWrong)

/-- 'cabochonlaw03.LeavesApart': WHATEVER THE INPUT: true; the input reads as it did. -/
def leavesApartSpec : ChangeSpec := { name := "leavesApart", fn := fun _ => fun
  | [d1, d2, d3] => { results := [.lit (.bool true)], args := [d1, d2, d3] }
  | _ => none }
def leavesApartRow : OpenClaim := { program := "ytdgnengfcabgjaa", sum := "780f550fdf08c4195bafe6da7ec95eefbed2e591b1ed8eaf163a90c8bb3b13de", func := "cabochon/cabochonlaw03.LeavesApart", spec := "leavesApart", inPlace := ["internal/bytealg.abigen_runtime_cmpstring"], unfollowed := true, recurses := true, loops := true, apart := false }
def LeavesApartSaid : Prop := leavesApartRow.holds Try.pinned (OpenSpec.ofChange leavesApartSpec)

/-- ITS FALSE NEIGHBOUR: 'it returns false'. Refute it at one input. -/
def leavesApartWrong : ChangeSpec := { name := "leavesApart", fn := fun _ => fun
  | [d1, d2, d3] => { results := [.lit (.bool false)], args := [d1, d2, d3] }
  | _ => none }
def LeavesApartWrongFalsely : Prop := leavesApartRow.holds Try.pinned (OpenSpec.ofChange leavesApartWrong)

/-- 'cabochonlaw03.LeavesCount': WHATEVER THE INPUT: true; the input reads as it did. -/
def leavesCountSpec : ChangeSpec := { name := "leavesCount", fn := fun _ => fun
  | [d] => { results := [.lit (.bool true)], args := [d] }
  | _ => none }
def leavesCountRow : OpenClaim := { program := "ytdgnengfcabgjaa", sum := "780f550fdf08c4195bafe6da7ec95eefbed2e591b1ed8eaf163a90c8bb3b13de", func := "cabochon/cabochonlaw03.LeavesCount", spec := "leavesCount", inPlace := ["internal/bytealg.abigen_runtime_cmpstring"], unfollowed := true, recurses := true, loops := true, apart := false }
def LeavesCountSaid : Prop := leavesCountRow.holds Try.pinned (OpenSpec.ofChange leavesCountSpec)

/-- ITS FALSE NEIGHBOUR: 'it returns false'. Refute it at one input. -/
def leavesCountWrong : ChangeSpec := { name := "leavesCount", fn := fun _ => fun
  | [d] => { results := [.lit (.bool false)], args := [d] }
  | _ => none }
def LeavesCountWrongFalsely : Prop := leavesCountRow.holds Try.pinned (OpenSpec.ofChange leavesCountWrong)

/- THE SECOND FORM. 'bulk': how many values and letters a reading holds, each counted each time it is reached (what is shared counts as often as it is met; a slice's spare places count too). A statement '..UptoSaid' is the law's where the arguments, and the package variables that the reading takes, are together of bulk at most 1048576: NARROWER than '..Said'. Prove '..Said' where nothing that the law and all that it calls make is longer than what came in: it says more and counts as full. Else prove '..UptoSaid'. A law counts once. -/
mutual
def uptoBulk {H : Type} : DataW H → Nat
  | .lit (.string bytes) => bytes.length + 1
  | .lit _ => 1
  | .nil => 1
  | .ptr d => uptoBulk d + 1
  | .slice elems spare => uptoBulkAll elems + uptoBulkAll spare + 1
  | .agg parts => uptoBulkAll parts + 1
  | .iface _ d => uptoBulk d + 1
  | .map entries => uptoBulkEntries entries + 1
  | .held _ => 1
def uptoBulkAll {H : Type} : List (DataW H) → Nat
  | [] => 0
  | d :: r => uptoBulk d + uptoBulkAll r
def uptoBulkEntries {H : Type} : List (Lit × DataW H) → Nat
  | [] => 0
  | x :: r => uptoBulkEntry x + uptoBulkEntries r
def uptoBulkEntry {H : Type} : Lit × DataW H → Nat
  | (.string bytes, d) => bytes.length + uptoBulk d + 1
  | (_, d) => uptoBulk d + 1
 end
def uptoSmall : (H : Type) → List (DataW H) → Bool := fun _ ds => decide (uptoBulkAll ds ≤ 1048576)
def OpenSpec.upto (s : _root_.Go.ChangeSpec) : _root_.Go.OpenSpec := { _root_.Go.OpenSpec.ofChange s with cond := some uptoSmall }

/-- 'cabochonlaw03.LeavesTell', WHERE WHAT IT READS IS OF BULK AT MOST 1048576: true; the input reads as it did. -/
def leavesTellUptoRow : OpenClaim := { program := "ytdgnengfcabgjaa", sum := "780f550fdf08c4195bafe6da7ec95eefbed2e591b1ed8eaf163a90c8bb3b13de", func := "cabochon/cabochonlaw03.LeavesTell", spec := "leavesTell", inPlace := ["internal/bytealg.abigen_runtime_cmpstring"], unfollowed := true, recurses := true, loops := true, apart := false, narrowed := true }
def LeavesTellUptoSaid : Prop := leavesTellUptoRow.holds Try.pinned (OpenSpec.upto leavesTellSpec)

/-- 'cabochonlaw03.LeavesMove', WHERE WHAT IT READS IS OF BULK AT MOST 1048576: true; the input reads as it did. -/
def leavesMoveUptoRow : OpenClaim := { program := "ytdgnengfcabgjaa", sum := "780f550fdf08c4195bafe6da7ec95eefbed2e591b1ed8eaf163a90c8bb3b13de", func := "cabochon/cabochonlaw03.LeavesMove", spec := "leavesMove", inPlace := ["internal/bytealg.abigen_runtime_cmpstring"], unfollowed := true, recurses := true, loops := true, apart := false, narrowed := true }
def LeavesMoveUptoSaid : Prop := leavesMoveUptoRow.holds Try.pinned (OpenSpec.upto leavesMoveSpec)

/-- 'cabochonlaw03.LeavesApart', WHERE WHAT IT READS IS OF BULK AT MOST 1048576: true; the input reads as it did. -/
def leavesApartUptoRow : OpenClaim := { program := "ytdgnengfcabgjaa", sum := "780f550fdf08c4195bafe6da7ec95eefbed2e591b1ed8eaf163a90c8bb3b13de", func := "cabochon/cabochonlaw03.LeavesApart", spec := "leavesApart", inPlace := ["internal/bytealg.abigen_runtime_cmpstring"], unfollowed := true, recurses := true, loops := true, apart := false, narrowed := true }
def LeavesApartUptoSaid : Prop := leavesApartUptoRow.holds Try.pinned (OpenSpec.upto leavesApartSpec)

/-- 'cabochonlaw03.LeavesCount', WHERE WHAT IT READS IS OF BULK AT MOST 1048576: true; the input reads as it did. -/
def leavesCountUptoRow : OpenClaim := { program := "ytdgnengfcabgjaa", sum := "780f550fdf08c4195bafe6da7ec95eefbed2e591b1ed8eaf163a90c8bb3b13de", func := "cabochon/cabochonlaw03.LeavesCount", spec := "leavesCount", inPlace := ["internal/bytealg.abigen_runtime_cmpstring"], unfollowed := true, recurses := true, loops := true, apart := false, narrowed := true }
def LeavesCountUptoSaid : Prop := leavesCountUptoRow.holds Try.pinned (OpenSpec.upto leavesCountSpec)

end Rows
end Go.Proofs.Ytdgnengfcabgjaa
