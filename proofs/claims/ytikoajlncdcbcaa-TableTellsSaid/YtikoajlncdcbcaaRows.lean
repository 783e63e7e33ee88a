/-
  No cell of these rows narrows 'for every input' (looked for: loops, veiled, ifaces, maps, wideKeys, modest, calm, conditions, laid).
  DERIVED. THE GIVEN ROWS OF THIS SEAT. 3 by the template 'for every input the law returns true; each argument reads behind the call as it read before'; 0 by the template 'total and deterministic' (their statements: YtikoajlncdcbcaaTotals.lean).
  GIVEN WITH THE SEED: the statements are not yours to turn. If you find one false, say at which input.
  Laid BY PROGRAM, IN A SANDBOX (cutbox-rows.mjs): the forced cells as the released guide's own fill.sh prints them over the translation 27113927b460033b… (all of the seat's roots in one cut). By AI agents, Wed Nov 11 2026. No macro, syntax, notation, axiom, sorry.
-/
import Derived.Test.YtikoajlncdcbcaaChecked
import GoSem.Claim
import GoSem.ClaimJoined
import GoSem.ClaimMapViews
import Derived.JoinedTies
import Derived.KernelRfl
namespace Go.Proofs.Ytikoajlncdcbcaa
/- THE CELL 'sum', in the pinned program and in every row, IS THE sha256 OF THE DUMP (.gsa) THAT YtikoajlncdcbcaaProg.lean LOADS. Nothing in Lean hashes anything: it is a label: what it is worth is what the hold of that sum in a sandbox is worth. -/
noncomputable def Try.pinned : Pinned := { name := "ytikoajlncdcbcaa", sum := "27113927b460033b73d46fbbe5aa26c91b7ad5ec151f861d8459b1405abae976", checked := Try.checked }
namespace Rows
def none {H : Type} : Left H := { results := [], args := [] }

/-- 'wainscotlaw19.TableTells': WHATEVER THE INPUT: true; the input reads as it did. -/
def tableTellsSpec : ChangeSpec := { name := "tableTells", fn := fun _ => fun
  | [d1, d2, d3] => { results := [.lit (.bool true)], args := [d1, d2, d3] }
  | _ => none }
def tableTellsRow : OpenClaim := { program := "ytikoajlncdcbcaa", sum := "27113927b460033b73d46fbbe5aa26c91b7ad5ec151f861d8459b1405abae976", func := "wainscot/wainscotlaw19.TableTells", spec := "tableTells", apart := false }
def TableTellsSaid : Prop := tableTellsRow.holds Try.pinned (OpenSpec.ofChange tableTellsSpec)

/-- ITS FALSE NEIGHBOUR: 'it returns false'. Refute it at one input. -/
def tableTellsWrong : ChangeSpec := { name := "tableTells", fn := fun _ => fun
  | [d1, d2, d3] => { results := [.lit (.bool false)], args := [d1, d2, d3] }
  | _ => none }
def TableTellsWrongFalsely : Prop := tableTellsRow.holds Try.pinned (OpenSpec.ofChange tableTellsWrong)

/-- 'wainscotlaw19.TableFinest': WHATEVER THE INPUT: true; the input reads as it did. -/
def tableFinestSpec : ChangeSpec := { name := "tableFinest", fn := fun _ => fun
  | [d1, d2, d3] => { results := [.lit (.bool true)], args := [d1, d2, d3] }
  | _ => none }
def tableFinestRow : OpenClaim := { program := "ytikoajlncdcbcaa", sum := "27113927b460033b73d46fbbe5aa26c91b7ad5ec151f861d8459b1405abae976", func := "wainscot/wainscotlaw19.TableFinest", spec := "tableFinest", apart := false }
def TableFinestSaid : Prop := tableFinestRow.holds Try.pinned (OpenSpec.ofChange tableFinestSpec)

/-- ITS FALSE NEIGHBOUR: 'it returns false'. Refute it at one input. -/
def tableFinestWrong : ChangeSpec := { name := "tableFinest", fn := fun _ => fun
  | [d1, d2, d3] => { results := [.lit (.bool false)], args := [d1, d2, d3] }
  | _ => none }
def TableFinestWrongFalsely : Prop := tableFinestRow.holds Try.pinned (OpenSpec.ofChange tableFinestWrong)

/-- 'wainscotlaw19.TableComes': WHATEVER THE INPUT: true; the input reads as it did. -/
def tableComesSpec : ChangeSpec := { name := "tableComes", fn := fun _ => fun
  | [d1, d2, d3] => { results := [.lit (.bool true)], args := [d1, d2, d3] }
  | _ => none }
def tableComesRow : OpenClaim := { program := "ytikoajlncdcbcaa", sum := "27113927b460033b73d46fbbe5aa26c91b7ad5ec151f861d8459b1405abae976", func := "wainscot/wainscotlaw19.TableComes", spec := "tableComes", apart := false }
def TableComesSaid : Prop := tableComesRow.holds Try.pinned (OpenSpec.ofChange tableComesSpec)

/-- ITS FALSE NEIGHBOUR: 'it returns false'. Refute it at one input. -/
def tableComesWrong : ChangeSpec := { name := "tableComes", fn := fun _ => fun
  | [d1, d2, d3] => { results := [.lit (.bool false)], args := [d1, d2, d3] }
  | _ => none }
def TableComesWrongFalsely : Prop := tableComesRow.holds Try.pinned (OpenSpec.ofChange tableComesWrong)

/- THE SECOND FORM. 'bulk': how many values and letters a reading holds, each counted each time it is reached (what is shared counts as often as it is met; a slice's spare places count too). A statement '..UptoSaid' is the law's where the arguments, and the package variables that the reading takes, are together of bulk at most 1048576: NARROWER than '..Said'. Prove '..Said' where nothing that the law and all that it calls make is longer than what came in: it says more and counts as full. Else prove '..UptoSaid'. A law counts once. -/
mutual
def uptoBulk {H : Type} : DataW H → Nat
  | .lit (.string bytes) => bytes.length + 1
  | .lit _ => 1
  | .nil => 1
  | .ptr d => uptoBulk d + 1
  | .slice elems spare => uptoBulkAll elems + uptoBulkAll spare + 1
  | .agg parts => uptoBulkAll parts + 1
  | .iface _ d => uptoBulk d + 1
  | .map entries => uptoBulkEntries entries + 1
  | .held _ => 1
def uptoBulkAll {H : Type} : List (DataW H) → Nat
  | [] => 0
  | d :: r => uptoBulk d + uptoBulkAll r
def uptoBulkEntries {H : Type} : List (Lit × DataW H) → Nat
  | [] => 0
  | x :: r => uptoBulkEntry x + uptoBulkEntries r
def uptoBulkEntry {H : Type} : Lit × DataW H → Nat
  | (.string bytes, d) => bytes.length + uptoBulk d + 1
  | (_, d) => uptoBulk d + 1
 end
def uptoSmall : (H : Type) → List (DataW H) → Bool := fun _ ds => decide (uptoBulkAll ds ≤ 1048576)
def OpenSpec.upto (s : _root_.Go.ChangeSpec) : _root_.Go.OpenSpec := { _root_.Go.OpenSpec.ofChange s with cond := some uptoSmall }

/-- 'wainscotlaw19.TableTells', WHERE WHAT IT READS IS OF BULK AT MOST 1048576: true; the input reads as it did. -/
def tableTellsUptoRow : OpenClaim := { program := "ytikoajlncdcbcaa", sum := "27113927b460033b73d46fbbe5aa26c91b7ad5ec151f861d8459b1405abae976", func := "wainscot/wainscotlaw19.TableTells", spec := "tableTells", apart := false, narrowed := true }
def TableTellsUptoSaid : Prop := tableTellsUptoRow.holds Try.pinned (OpenSpec.upto tableTellsSpec)

/-- 'wainscotlaw19.TableFinest', WHERE WHAT IT READS IS OF BULK AT MOST 1048576: true; the input reads as it did. -/
def tableFinestUptoRow : OpenClaim := { program := "ytikoajlncdcbcaa", sum := "27113927b460033b73d46fbbe5aa26c91b7ad5ec151f861d8459b1405abae976", func := "wainscot/wainscotlaw19.TableFinest", spec := "tableFinest", apart := false, narrowed := true }
def TableFinestUptoSaid : Prop := tableFinestUptoRow.holds Try.pinned (OpenSpec.upto tableFinestSpec)

/-- 'wainscotlaw19.TableComes', WHERE WHAT IT READS IS OF BULK AT MOST 1048576: true; the input reads as it did. -/
def tableComesUptoRow : OpenClaim := { program := "ytikoajlncdcbcaa", sum := "27113927b460033b73d46fbbe5aa26c91b7ad5ec151f861d8459b1405abae976", func := "wainscot/wainscotlaw19.TableComes", spec := "tableComes", apart := false, narrowed := true }
def TableComesUptoSaid : Prop := tableComesUptoRow.holds Try.pinned (OpenSpec.upto tableComesSpec)

end Rows
end Go.Proofs.Ytikoajlncdcbcaa
