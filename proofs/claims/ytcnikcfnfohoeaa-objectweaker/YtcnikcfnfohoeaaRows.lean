/-
  No cell of these rows narrows 'for every input' (looked for: loops, veiled, ifaces, maps, wideKeys, modest, calm, conditions, laid).
  DERIVED. THE GIVEN ROWS OF THIS SEAT. 6 by the template 'for every input the law returns true; each argument reads behind the call as it read before'; 0 by the template 'total and deterministic' (their statements: YtcnikcfnfohoeaaTotals.lean).
  GIVEN WITH THE SEED: the statements are not yours to turn. If you find one false, say at which input.
  Laid BY PROGRAM, IN A SANDBOX (cutbox-rows.mjs): the forced cells as the released guide's own fill.sh prints them over the translation 3296cbadae2521ec… (all of the seat's roots in one cut). By AI agents, Wed Nov 11 2026. No macro, syntax, notation, axiom, sorry.
-/
import Derived.Test.YtcnikcfnfohoeaaChecked
import GoSem.Claim
import GoSem.ClaimJoined
import GoSem.ClaimMapViews
import Derived.JoinedTies
import Derived.KernelRfl
namespace Go.Proofs.Ytcnikcfnfohoeaa
/- THE CELL 'sum', in the pinned program and in every row, IS THE sha256 OF THE DUMP (.gsa) THAT YtcnikcfnfohoeaaProg.lean LOADS. Nothing in Lean hashes anything: it is a label: what it is worth is what the hold of that sum in a sandbox is worth. -/
noncomputable def Try.pinned : Pinned := { name := "ytcnikcfnfohoeaa", sum := "3296cbadae2521ecc3fae8dfa19ccc9644310adbadd66457744560fe2b693d78", checked := Try.checked }
namespace Rows
def none {H : Type} : Left H := { results := [], args := [] }

/-- 'proteanlaw07.ObjectTells': WHATEVER THE INPUT: true; the input reads as it did. -/
def objectTellsSpec : ChangeSpec := { name := "objectTells", fn := fun _ => fun
  | [d1, d2, d3] => { results := [.lit (.bool true)], args := [d1, d2, d3] }
  | _ => none }
def objectTellsRow : OpenClaim := { program := "ytcnikcfnfohoeaa", sum := "3296cbadae2521ecc3fae8dfa19ccc9644310adbadd66457744560fe2b693d78", func := "protean/proteanlaw07.ObjectTells", spec := "objectTells", inPlace := ["slices.overlaps[protean/api.Field]"], unfollowed := true, recurses := true, apart := false }
def ObjectTellsSaid : Prop := objectTellsRow.holds Try.pinned (OpenSpec.ofChange objectTellsSpec)

/-- ITS FALSE NEIGHBOUR: 'it returns false'. Refute it at one input. -/
def objectTellsWrong : ChangeSpec := { name := "objectTells", fn := fun _ => fun
  | [d1, d2, d3] => { results := [.lit (.bool false)], args := [d1, d2, d3] }
  | _ => none }
def ObjectTellsWrongFalsely : Prop := objectTellsRow.holds Try.pinned (OpenSpec.ofChange objectTellsWrong)

/-- 'proteanlaw07.ObjectWrites': WHATEVER THE INPUT: true; the input reads as it did. -/
def objectWritesSpec : ChangeSpec := { name := "objectWrites", fn := fun _ => fun
  | [d1, d2, d3] => { results := [.lit (.bool true)], args := [d1, d2, d3] }
  | _ => none }
def objectWritesRow : OpenClaim := { program := "ytcnikcfnfohoeaa", sum := "3296cbadae2521ecc3fae8dfa19ccc9644310adbadd66457744560fe2b693d78", func := "protean/proteanlaw07.ObjectWrites", spec := "objectWrites", inPlace := ["slices.overlaps[protean/api.Field]"], unfollowed := true, recurses := true, apart := false }
def ObjectWritesSaid : Prop := objectWritesRow.holds Try.pinned (OpenSpec.ofChange objectWritesSpec)

/-- ITS FALSE NEIGHBOUR: 'it returns false'. Refute it at one input. -/
def objectWritesWrong : ChangeSpec := { name := "objectWrites", fn := fun _ => fun
  | [d1, d2, d3] => { results := [.lit (.bool false)], args := [d1, d2, d3] }
  | _ => none }
def ObjectWritesWrongFalsely : Prop := objectWritesRow.holds Try.pinned (OpenSpec.ofChange objectWritesWrong)

/-- 'proteanlaw07.ObjectJoin': WHATEVER THE INPUT: true; the input reads as it did. -/
def objectJoinSpec : ChangeSpec := { name := "objectJoin", fn := fun _ => fun
  | [d1, d2, d3] => { results := [.lit (.bool true)], args := [d1, d2, d3] }
  | _ => none }
def objectJoinRow : OpenClaim := { program := "ytcnikcfnfohoeaa", sum := "3296cbadae2521ecc3fae8dfa19ccc9644310adbadd66457744560fe2b693d78", func := "protean/proteanlaw07.ObjectJoin", spec := "objectJoin", inPlace := ["slices.overlaps[protean/api.Field]"], unfollowed := true, recurses := true, apart := false }
def ObjectJoinSaid : Prop := objectJoinRow.holds Try.pinned (OpenSpec.ofChange objectJoinSpec)

/-- ITS FALSE NEIGHBOUR: 'it returns false'. Refute it at one input. -/
def objectJoinWrong : ChangeSpec := { name := "objectJoin", fn := fun _ => fun
  | [d1, d2, d3] => { results := [.lit (.bool false)], args := [d1, d2, d3] }
  | _ => none }
def ObjectJoinWrongFalsely : Prop := objectJoinRow.holds Try.pinned (OpenSpec.ofChange objectJoinWrong)

/-- 'proteanlaw07.ObjectWeaker': WHATEVER THE INPUT: true; the input reads as it did. -/
def objectWeakerSpec : ChangeSpec := { name := "objectWeaker", fn := fun _ => fun
  | [d1, d2, d3] => { results := [.lit (.bool true)], args := [d1, d2, d3] }
  | _ => none }
def objectWeakerRow : OpenClaim := { program := "ytcnikcfnfohoeaa", sum := "3296cbadae2521ecc3fae8dfa19ccc9644310adbadd66457744560fe2b693d78", func := "protean/proteanlaw07.ObjectWeaker", spec := "objectWeaker", inPlace := ["slices.overlaps[protean/api.Field]"], unfollowed := true, recurses := true, apart := false }
def ObjectWeakerSaid : Prop := objectWeakerRow.holds Try.pinned (OpenSpec.ofChange objectWeakerSpec)

/-- ITS FALSE NEIGHBOUR: 'it returns false'. Refute it at one input. -/
def objectWeakerWrong : ChangeSpec := { name := "objectWeaker", fn := fun _ => fun
  | [d1, d2, d3] => { results := [.lit (.bool false)], args := [d1, d2, d3] }
  | _ => none }
def ObjectWeakerWrongFalsely : Prop := objectWeakerRow.holds Try.pinned (OpenSpec.ofChange objectWeakerWrong)

/-- 'proteanlaw07.ObjectRenamed': WHATEVER THE INPUT: true; the input reads as it did. -/
def objectRenamedSpec : ChangeSpec := { name := "objectRenamed", fn := fun _ => fun
  | [d1, d2, d3] => { results := [.lit (.bool true)], args := [d1, d2, d3] }
  | _ => none }
def objectRenamedRow : OpenClaim := { program := "ytcnikcfnfohoeaa", sum := "3296cbadae2521ecc3fae8dfa19ccc9644310adbadd66457744560fe2b693d78", func := "protean/proteanlaw07.ObjectRenamed", spec := "objectRenamed", inPlace := ["slices.overlaps[protean/api.Field]"], unfollowed := true, recurses := true, apart := false }
def ObjectRenamedSaid : Prop := objectRenamedRow.holds Try.pinned (OpenSpec.ofChange objectRenamedSpec)

/-- ITS FALSE NEIGHBOUR: 'it returns false'. Refute it at one input. -/
def objectRenamedWrong : ChangeSpec := { name := "objectRenamed", fn := fun _ => fun
  | [d1, d2, d3] => { results := [.lit (.bool false)], args := [d1, d2, d3] }
  | _ => none }
def ObjectRenamedWrongFalsely : Prop := objectRenamedRow.holds Try.pinned (OpenSpec.ofChange objectRenamedWrong)

/-- 'proteanlaw07.ObjectJoined': WHATEVER THE INPUT: true; the input reads as it did. -/
def objectJoinedSpec : ChangeSpec := { name := "objectJoined", fn := fun _ => fun
  | [d1, d2, d3] => { results := [.lit (.bool true)], args := [d1, d2, d3] }
  | _ => none }
def objectJoinedRow : OpenClaim := { program := "ytcnikcfnfohoeaa", sum := "3296cbadae2521ecc3fae8dfa19ccc9644310adbadd66457744560fe2b693d78", func := "protean/proteanlaw07.ObjectJoined", spec := "objectJoined", inPlace := ["slices.overlaps[protean/api.Field]"], unfollowed := true, recurses := true, apart := false }
def ObjectJoinedSaid : Prop := objectJoinedRow.holds Try.pinned (OpenSpec.ofChange objectJoinedSpec)

/-- ITS FALSE NEIGHBOUR: 'it returns false'. Refute it at one input. -/
def objectJoinedWrong : ChangeSpec := { name := "objectJoined", fn := fun _ => fun
  | [d1, d2, d3] => { results := [.lit (.bool false)], args := [d1, d2, d3] }
  | _ => none }
def ObjectJoinedWrongFalsely : Prop := objectJoinedRow.holds Try.pinned (OpenSpec.ofChange objectJoinedWrong)

/- THE SECOND FORM. 'bulk': how many values and letters a reading holds, each counted each time it is reached (what is shared counts as often as it is met; a slice's spare places count too). A statement '..UptoSaid' is the law's where the arguments, and the package variables that the reading takes, are together of bulk at most 1048576: NARROWER than '..Said'. Prove '..Said' where nothing that the law and all that it calls make is longer than what came in: it says more and counts as full. Else prove '..UptoSaid'. A law counts once. -/
mutual
def uptoBulk {H : Type} : DataW H → Nat
  | .lit (.string bytes) => bytes.length + 1
  | .lit _ => 1
  | .nil => 1
  | .ptr d => uptoBulk d + 1
  | .slice elems spare => uptoBulkAll elems + uptoBulkAll spare + 1
  | .agg parts => uptoBulkAll parts + 1
  | .iface _ d => uptoBulk d + 1
  | .map entries => uptoBulkEntries entries + 1
  | .held _ => 1
def uptoBulkAll {H : Type} : List (DataW H) → Nat
  | [] => 0
  | d :: r => uptoBulk d + uptoBulkAll r
def uptoBulkEntries {H : Type} : List (Lit × DataW H) → Nat
  | [] => 0
  | x :: r => uptoBulkEntry x + uptoBulkEntries r
def uptoBulkEntry {H : Type} : Lit × DataW H → Nat
  | (.string bytes, d) => bytes.length + uptoBulk d + 1
  | (_, d) => uptoBulk d + 1
 end
def uptoSmall : (H : Type) → List (DataW H) → Bool := fun _ ds => decide (uptoBulkAll ds ≤ 1048576)
def OpenSpec.upto (s : _root_.Go.ChangeSpec) : _root_.Go.OpenSpec := { _root_.Go.OpenSpec.ofChange s with cond := some uptoSmall }

/-- 'proteanlaw07.ObjectTells', WHERE WHAT IT READS IS OF BULK AT MOST 1048576: true; the input reads as it did. -/
def objectTellsUptoRow : OpenClaim := { program := "ytcnikcfnfohoeaa", sum := "3296cbadae2521ecc3fae8dfa19ccc9644310adbadd66457744560fe2b693d78", func := "protean/proteanlaw07.ObjectTells", spec := "objectTells", inPlace := ["slices.overlaps[protean/api.Field]"], unfollowed := true, recurses := true, apart := false, narrowed := true }
def ObjectTellsUptoSaid : Prop := objectTellsUptoRow.holds Try.pinned (OpenSpec.upto objectTellsSpec)

/-- 'proteanlaw07.ObjectWrites', WHERE WHAT IT READS IS OF BULK AT MOST 1048576: true; the input reads as it did. -/
def objectWritesUptoRow : OpenClaim := { program := "ytcnikcfnfohoeaa", sum := "3296cbadae2521ecc3fae8dfa19ccc9644310adbadd66457744560fe2b693d78", func := "protean/proteanlaw07.ObjectWrites", spec := "objectWrites", inPlace := ["slices.overlaps[protean/api.Field]"], unfollowed := true, recurses := true, apart := false, narrowed := true }
def ObjectWritesUptoSaid : Prop := objectWritesUptoRow.holds Try.pinned (OpenSpec.upto objectWritesSpec)

/-- 'proteanlaw07.ObjectJoin', WHERE WHAT IT READS IS OF BULK AT MOST 1048576: true; the input reads as it did. -/
def objectJoinUptoRow : OpenClaim := { program := "ytcnikcfnfohoeaa", sum := "3296cbadae2521ecc3fae8dfa19ccc9644310adbadd66457744560fe2b693d78", func := "protean/proteanlaw07.ObjectJoin", spec := "objectJoin", inPlace := ["slices.overlaps[protean/api.Field]"], unfollowed := true, recurses := true, apart := false, narrowed := true }
def ObjectJoinUptoSaid : Prop := objectJoinUptoRow.holds Try.pinned (OpenSpec.upto objectJoinSpec)

/-- 'proteanlaw07.ObjectWeaker', WHERE WHAT IT READS IS OF BULK AT MOST 1048576: true; the input reads as it did. -/
def objectWeakerUptoRow : OpenClaim := { program := "ytcnikcfnfohoeaa", sum := "3296cbadae2521ecc3fae8dfa19ccc9644310adbadd66457744560fe2b693d78", func := "protean/proteanlaw07.ObjectWeaker", spec := "objectWeaker", inPlace := ["slices.overlaps[protean/api.Field]"], unfollowed := true, recurses := true, apart := false, narrowed := true }
def ObjectWeakerUptoSaid : Prop := objectWeakerUptoRow.holds Try.pinned (OpenSpec.upto objectWeakerSpec)

/-- 'proteanlaw07.ObjectRenamed', WHERE WHAT IT READS IS OF BULK AT MOST 1048576: true; the input reads as it did. -/
def objectRenamedUptoRow : OpenClaim := { program := "ytcnikcfnfohoeaa", sum := "3296cbadae2521ecc3fae8dfa19ccc9644310adbadd66457744560fe2b693d78", func := "protean/proteanlaw07.ObjectRenamed", spec := "objectRenamed", inPlace := ["slices.overlaps[protean/api.Field]"], unfollowed := true, recurses := true, apart := false, narrowed := true }
def ObjectRenamedUptoSaid : Prop := objectRenamedUptoRow.holds Try.pinned (OpenSpec.upto objectRenamedSpec)

/-- 'proteanlaw07.ObjectJoined', WHERE WHAT IT READS IS OF BULK AT MOST 1048576: true; the input reads as it did. -/
def objectJoinedUptoRow : OpenClaim := { program := "ytcnikcfnfohoeaa", sum := "3296cbadae2521ecc3fae8dfa19ccc9644310adbadd66457744560fe2b693d78", func := "protean/proteanlaw07.ObjectJoined", spec := "objectJoined", inPlace := ["slices.overlaps[protean/api.Field]"], unfollowed := true, recurses := true, apart := false, narrowed := true }
def ObjectJoinedUptoSaid : Prop := objectJoinedUptoRow.holds Try.pinned (OpenSpec.upto objectJoinedSpec)

end Rows
end Go.Proofs.Ytcnikcfnfohoeaa
