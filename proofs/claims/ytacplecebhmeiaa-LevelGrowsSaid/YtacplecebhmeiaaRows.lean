/-
  No cell of these rows narrows 'for every input' (looked for: loops, veiled, ifaces, maps, wideKeys, modest, calm, conditions, laid).
  DERIVED. THE GIVEN ROWS OF THIS SEAT. 3 by the template 'for every input the law returns true; each argument reads behind the call as it read before'; 0 by the template 'total and deterministic' (their statements: YtacplecebhmeiaaTotals.lean).
  GIVEN WITH THE SEED: the statements are not yours to turn. If you find one false, say at which input.
  Laid BY PROGRAM, IN A SANDBOX (cutbox-rows.mjs): the forced cells as the released guide's own fill.sh prints them over the translation 85116c94d1e09921… (all of the seat's roots in one cut). By AI agents, Wed Nov 11 2026. No macro, syntax, notation, axiom, sorry.
-/
import Derived.Test.YtacplecebhmeiaaChecked
import GoSem.Claim
import GoSem.ClaimJoined
import GoSem.ClaimMapViews
import Derived.JoinedTies
import Derived.KernelRfl
namespace Go.Proofs.Ytacplecebhmeiaa
/- THE CELL 'sum', in the pinned program and in every row, IS THE sha256 OF THE DUMP (.gsa) THAT YtacplecebhmeiaaProg.lean LOADS. Nothing in Lean hashes anything: it is a label: what it is worth is what the hold of that sum in a sandbox is worth. -/
noncomputable def Try.pinned : Pinned := { name := "ytacplecebhmeiaa", sum := "85116c94d1e0992104acc211a85bb118a97bdb0528cd2aa614bd251d37d755fc", checked := Try.checked }
namespace Rows
def none {H : Type} : Left H := { results := [], args := [] }

/-- 'wainscotlaw22.LevelGrows': WHATEVER THE INPUT: true; the input reads as it did. -/
def levelGrowsSpec : ChangeSpec := { name := "levelGrows", fn := fun _ => fun
  | [d1, d2, d3] => { results := [.lit (.bool true)], args := [d1, d2, d3] }
  | _ => none }
def levelGrowsRow : OpenClaim := { program := "ytacplecebhmeiaa", sum := "85116c94d1e0992104acc211a85bb118a97bdb0528cd2aa614bd251d37d755fc", func := "wainscot/wainscotlaw22.LevelGrows", spec := "levelGrows", apart := false }
def LevelGrowsSaid : Prop := levelGrowsRow.holds Try.pinned (OpenSpec.ofChange levelGrowsSpec)

/-- ITS FALSE NEIGHBOUR: 'it returns false'. Refute it at one input. -/
def levelGrowsWrong : ChangeSpec := { name := "levelGrows", fn := fun _ => fun
  | [d1, d2, d3] => { results := [.lit (.bool false)], args := [d1, d2, d3] }
  | _ => none }
def LevelGrowsWrongFalsely : Prop := levelGrowsRow.holds Try.pinned (OpenSpec.ofChange levelGrowsWrong)

/-- 'wainscotlaw22.LevelPowers': WHATEVER THE INPUT: true; the input reads as it did. -/
def levelPowersSpec : ChangeSpec := { name := "levelPowers", fn := fun _ => fun
  | [d] => { results := [.lit (.bool true)], args := [d] }
  | _ => none }
def levelPowersRow : OpenClaim := { program := "ytacplecebhmeiaa", sum := "85116c94d1e0992104acc211a85bb118a97bdb0528cd2aa614bd251d37d755fc", func := "wainscot/wainscotlaw22.LevelPowers", spec := "levelPowers", apart := false }
def LevelPowersSaid : Prop := levelPowersRow.holds Try.pinned (OpenSpec.ofChange levelPowersSpec)

/-- ITS FALSE NEIGHBOUR: 'it returns false'. Refute it at one input. -/
def levelPowersWrong : ChangeSpec := { name := "levelPowers", fn := fun _ => fun
  | [d] => { results := [.lit (.bool false)], args := [d] }
  | _ => none }
def LevelPowersWrongFalsely : Prop := levelPowersRow.holds Try.pinned (OpenSpec.ofChange levelPowersWrong)

/-- 'wainscotlaw22.LevelTwo': WHATEVER THE INPUT: true; the input reads as it did. -/
def levelTwoSpec : ChangeSpec := { name := "levelTwo", fn := fun _ => fun
  | [d1, d2, d3, d4, d5, d6] => { results := [.lit (.bool true)], args := [d1, d2, d3, d4, d5, d6] }
  | _ => none }
def levelTwoRow : OpenClaim := { program := "ytacplecebhmeiaa", sum := "85116c94d1e0992104acc211a85bb118a97bdb0528cd2aa614bd251d37d755fc", func := "wainscot/wainscotlaw22.LevelTwo", spec := "levelTwo", apart := false }
def LevelTwoSaid : Prop := levelTwoRow.holds Try.pinned (OpenSpec.ofChange levelTwoSpec)

/-- ITS FALSE NEIGHBOUR: 'it returns false'. Refute it at one input. -/
def levelTwoWrong : ChangeSpec := { name := "levelTwo", fn := fun _ => fun
  | [d1, d2, d3, d4, d5, d6] => { results := [.lit (.bool false)], args := [d1, d2, d3, d4, d5, d6] }
  | _ => none }
def LevelTwoWrongFalsely : Prop := levelTwoRow.holds Try.pinned (OpenSpec.ofChange levelTwoWrong)

/- THE SECOND FORM. 'bulk': how many values and letters a reading holds, each counted each time it is reached (what is shared counts as often as it is met; a slice's spare places count too). A statement '..UptoSaid' is the law's where the arguments, and the package variables that the reading takes, are together of bulk at most 1048576: NARROWER than '..Said'. Prove '..Said' where nothing that the law and all that it calls make is longer than what came in: it says more and counts as full. Else prove '..UptoSaid'. A law counts once. -/
mutual
def uptoBulk {H : Type} : DataW H → Nat
  | .lit (.string bytes) => bytes.length + 1
  | .lit _ => 1
  | .nil => 1
  | .ptr d => uptoBulk d + 1
  | .slice elems spare => uptoBulkAll elems + uptoBulkAll spare + 1
  | .agg parts => uptoBulkAll parts + 1
  | .iface _ d => uptoBulk d + 1
  | .map entries => uptoBulkEntries entries + 1
  | .held _ => 1
def uptoBulkAll {H : Type} : List (DataW H) → Nat
  | [] => 0
  | d :: r => uptoBulk d + uptoBulkAll r
def uptoBulkEntries {H : Type} : List (Lit × DataW H) → Nat
  | [] => 0
  | x :: r => uptoBulkEntry x + uptoBulkEntries r
def uptoBulkEntry {H : Type} : Lit × DataW H → Nat
  | (.string bytes, d) => bytes.length + uptoBulk d + 1
  | (_, d) => uptoBulk d + 1
 end
def uptoSmall : (H : Type) → List (DataW H) → Bool := fun _ ds => decide (uptoBulkAll ds ≤ 1048576)
def OpenSpec.upto (s : _root_.Go.ChangeSpec) : _root_.Go.OpenSpec := { _root_.Go.OpenSpec.ofChange s with cond := some uptoSmall }

/-- 'wainscotlaw22.LevelGrows', WHERE WHAT IT READS IS OF BULK AT MOST 1048576: true; the input reads as it did. -/
def levelGrowsUptoRow : OpenClaim := { program := "ytacplecebhmeiaa", sum := "85116c94d1e0992104acc211a85bb118a97bdb0528cd2aa614bd251d37d755fc", func := "wainscot/wainscotlaw22.LevelGrows", spec := "levelGrows", apart := false, narrowed := true }
def LevelGrowsUptoSaid : Prop := levelGrowsUptoRow.holds Try.pinned (OpenSpec.upto levelGrowsSpec)

/-- 'wainscotlaw22.LevelPowers', WHERE WHAT IT READS IS OF BULK AT MOST 1048576: true; the input reads as it did. -/
def levelPowersUptoRow : OpenClaim := { program := "ytacplecebhmeiaa", sum := "85116c94d1e0992104acc211a85bb118a97bdb0528cd2aa614bd251d37d755fc", func := "wainscot/wainscotlaw22.LevelPowers", spec := "levelPowers", apart := false, narrowed := true }
def LevelPowersUptoSaid : Prop := levelPowersUptoRow.holds Try.pinned (OpenSpec.upto levelPowersSpec)

/-- 'wainscotlaw22.LevelTwo', WHERE WHAT IT READS IS OF BULK AT MOST 1048576: true; the input reads as it did. -/
def levelTwoUptoRow : OpenClaim := { program := "ytacplecebhmeiaa", sum := "85116c94d1e0992104acc211a85bb118a97bdb0528cd2aa614bd251d37d755fc", func := "wainscot/wainscotlaw22.LevelTwo", spec := "levelTwo", apart := false, narrowed := true }
def LevelTwoUptoSaid : Prop := levelTwoUptoRow.holds Try.pinned (OpenSpec.upto levelTwoSpec)

end Rows
end Go.Proofs.Ytacplecebhmeiaa
