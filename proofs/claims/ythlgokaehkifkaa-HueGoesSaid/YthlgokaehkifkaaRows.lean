/-
  No cell of these rows narrows 'for every input' (looked for: loops, veiled, ifaces, maps, wideKeys, modest, calm, conditions, laid).
  DERIVED. THE GIVEN ROWS OF THIS SEAT. 5 by the template 'for every input the law returns true; each argument reads behind the call as it read before'; 0 by the template 'total and deterministic' (their statements: YthlgokaehkifkaaTotals.lean).
  GIVEN WITH THE SEED: the statements are not yours to turn. If you find one false, say at which input.
  Laid BY PROGRAM, IN A SANDBOX (cutbox-rows.mjs): the forced cells as the released guide's own fill.sh prints them over the translation 48054645644043d5… (all of the seat's roots in one cut). By AI agents, Wed Nov 11 2026. No macro, syntax, notation, axiom, sorry.
-/
import Derived.Test.YthlgokaehkifkaaChecked
import GoSem.Claim
import GoSem.ClaimJoined
import GoSem.ClaimMapViews
import Derived.JoinedTies
import Derived.KernelRfl
namespace Go.Proofs.Ythlgokaehkifkaa
/- THE CELL 'sum', in the pinned program and in every row, IS THE sha256 OF THE DUMP (.gsa) THAT YthlgokaehkifkaaProg.lean LOADS. Nothing in Lean hashes anything: it is a label: what it is worth is what the hold of that sum in a sandbox is worth. -/
noncomputable def Try.pinned : Pinned := { name := "ythlgokaehkifkaa", sum := "48054645644043d57122071d05376c807b12144ea9d0cb246fa3a31bc980df68", checked := Try.checked }
namespace Rows
def none {H : Type} : Left H := { results := [], args := [] }

/-- 'wainscotlaw3.HueTells': WHATEVER THE INPUT: true; the input reads as it did. -/
def hueTellsSpec : ChangeSpec := { name := "hueTells", fn := fun _ => fun
  | [d1, d2, d3, d4, d5, d6] => { results := [.lit (.bool true)], args := [d1, d2, d3, d4, d5, d6] }
  | _ => none }
def hueTellsRow : OpenClaim := { program := "ythlgokaehkifkaa", sum := "48054645644043d57122071d05376c807b12144ea9d0cb246fa3a31bc980df68", func := "wainscot/wainscotlaw3.HueTells", spec := "hueTells", apart := false }
def HueTellsSaid : Prop := hueTellsRow.holds Try.pinned (OpenSpec.ofChange hueTellsSpec)

/-- ITS FALSE NEIGHBOUR: 'it returns false'. Refute it at one input. -/
def hueTellsWrong : ChangeSpec := { name := "hueTells", fn := fun _ => fun
  | [d1, d2, d3, d4, d5, d6] => { results := [.lit (.bool false)], args := [d1, d2, d3, d4, d5, d6] }
  | _ => none }
def HueTellsWrongFalsely : Prop := hueTellsRow.holds Try.pinned (OpenSpec.ofChange hueTellsWrong)

/-- 'wainscotlaw3.HueKeeps': WHATEVER THE INPUT: true; the input reads as it did. -/
def hueKeepsSpec : ChangeSpec := { name := "hueKeeps", fn := fun _ => fun
  | [d1, d2, d3] => { results := [.lit (.bool true)], args := [d1, d2, d3] }
  | _ => none }
def hueKeepsRow : OpenClaim := { program := "ythlgokaehkifkaa", sum := "48054645644043d57122071d05376c807b12144ea9d0cb246fa3a31bc980df68", func := "wainscot/wainscotlaw3.HueKeeps", spec := "hueKeeps", apart := false }
def HueKeepsSaid : Prop := hueKeepsRow.holds Try.pinned (OpenSpec.ofChange hueKeepsSpec)

/-- ITS FALSE NEIGHBOUR: 'it returns false'. Refute it at one input. -/
def hueKeepsWrong : ChangeSpec := { name := "hueKeeps", fn := fun _ => fun
  | [d1, d2, d3] => { results := [.lit (.bool false)], args := [d1, d2, d3] }
  | _ => none }
def HueKeepsWrongFalsely : Prop := hueKeepsRow.holds Try.pinned (OpenSpec.ofChange hueKeepsWrong)

/-- 'wainscotlaw3.HueBack': WHATEVER THE INPUT: true; the input reads as it did. -/
def hueBackSpec : ChangeSpec := { name := "hueBack", fn := fun _ => fun
  | [d1, d2] => { results := [.lit (.bool true)], args := [d1, d2] }
  | _ => none }
def hueBackRow : OpenClaim := { program := "ythlgokaehkifkaa", sum := "48054645644043d57122071d05376c807b12144ea9d0cb246fa3a31bc980df68", func := "wainscot/wainscotlaw3.HueBack", spec := "hueBack", apart := false }
def HueBackSaid : Prop := hueBackRow.holds Try.pinned (OpenSpec.ofChange hueBackSpec)

/-- ITS FALSE NEIGHBOUR: 'it returns false'. Refute it at one input. -/
def hueBackWrong : ChangeSpec := { name := "hueBack", fn := fun _ => fun
  | [d1, d2] => { results := [.lit (.bool false)], args := [d1, d2] }
  | _ => none }
def HueBackWrongFalsely : Prop := hueBackRow.holds Try.pinned (OpenSpec.ofChange hueBackWrong)

/-- 'wainscotlaw3.HueGoes': WHATEVER THE INPUT: true; the input reads as it did. -/
def hueGoesSpec : ChangeSpec := { name := "hueGoes", fn := fun _ => fun
  | [d1, d2, d3, d4] => { results := [.lit (.bool true)], args := [d1, d2, d3, d4] }
  | _ => none }
def hueGoesRow : OpenClaim := { program := "ythlgokaehkifkaa", sum := "48054645644043d57122071d05376c807b12144ea9d0cb246fa3a31bc980df68", func := "wainscot/wainscotlaw3.HueGoes", spec := "hueGoes", apart := false }
def HueGoesSaid : Prop := hueGoesRow.holds Try.pinned (OpenSpec.ofChange hueGoesSpec)

/-- ITS FALSE NEIGHBOUR: 'it returns false'. Refute it at one input. -/
def hueGoesWrong : ChangeSpec := { name := "hueGoes", fn := fun _ => fun
  | [d1, d2, d3, d4] => { results := [.lit (.bool false)], args := [d1, d2, d3, d4] }
  | _ => none }
def HueGoesWrongFalsely : Prop := hueGoesRow.holds Try.pinned (OpenSpec.ofChange hueGoesWrong)

/-- 'wainscotlaw3.HueMeans': WHATEVER THE INPUT: true; the input reads as it did. -/
def hueMeansSpec : ChangeSpec := { name := "hueMeans", fn := fun _ => fun
  | [d1, d2] => { results := [.lit (.bool true)], args := [d1, d2] }
  | _ => none }
def hueMeansRow : OpenClaim := { program := "ythlgokaehkifkaa", sum := "48054645644043d57122071d05376c807b12144ea9d0cb246fa3a31bc980df68", func := "wainscot/wainscotlaw3.HueMeans", spec := "hueMeans", apart := false }
def HueMeansSaid : Prop := hueMeansRow.holds Try.pinned (OpenSpec.ofChange hueMeansSpec)

/-- ITS FALSE NEIGHBOUR: 'it returns false'. Refute it at one input. -/
def hueMeansWrong : ChangeSpec := { name := "hueMeans", fn := fun _ => fun
  | [d1, d2] => { results := [.lit (.bool false)], args := [d1, d2] }
  | _ => none }
def HueMeansWrongFalsely : Prop := hueMeansRow.holds Try.pinned (OpenSpec.ofChange hueMeansWrong)

/- THE SECOND FORM. 'bulk': how many values and letters a reading holds, each counted each time it is reached (what is shared counts as often as it is met; a slice's spare places count too). A statement '..UptoSaid' is the law's where the arguments, and the package variables that the reading takes, are together of bulk at most 1048576: NARROWER than '..Said'. Prove '..Said' where nothing that the law and all that it calls make is longer than what came in: it says more and counts as full. Else prove '..UptoSaid'. A law counts once. -/
mutual
def uptoBulk {H : Type} : DataW H → Nat
  | .lit (.string bytes) => bytes.length + 1
  | .lit _ => 1
  | .nil => 1
  | .ptr d => uptoBulk d + 1
  | .slice elems spare => uptoBulkAll elems + uptoBulkAll spare + 1
  | .agg parts => uptoBulkAll parts + 1
  | .iface _ d => uptoBulk d + 1
  | .map entries => uptoBulkEntries entries + 1
  | .held _ => 1
def uptoBulkAll {H : Type} : List (DataW H) → Nat
  | [] => 0
  | d :: r => uptoBulk d + uptoBulkAll r
def uptoBulkEntries {H : Type} : List (Lit × DataW H) → Nat
  | [] => 0
  | x :: r => uptoBulkEntry x + uptoBulkEntries r
def uptoBulkEntry {H : Type} : Lit × DataW H → Nat
  | (.string bytes, d) => bytes.length + uptoBulk d + 1
  | (_, d) => uptoBulk d + 1
 end
def uptoSmall : (H : Type) → List (DataW H) → Bool := fun _ ds => decide (uptoBulkAll ds ≤ 1048576)
def OpenSpec.upto (s : _root_.Go.ChangeSpec) : _root_.Go.OpenSpec := { _root_.Go.OpenSpec.ofChange s with cond := some uptoSmall }

/-- 'wainscotlaw3.HueTells', WHERE WHAT IT READS IS OF BULK AT MOST 1048576: true; the input reads as it did. -/
def hueTellsUptoRow : OpenClaim := { program := "ythlgokaehkifkaa", sum := "48054645644043d57122071d05376c807b12144ea9d0cb246fa3a31bc980df68", func := "wainscot/wainscotlaw3.HueTells", spec := "hueTells", apart := false, narrowed := true }
def HueTellsUptoSaid : Prop := hueTellsUptoRow.holds Try.pinned (OpenSpec.upto hueTellsSpec)

/-- 'wainscotlaw3.HueKeeps', WHERE WHAT IT READS IS OF BULK AT MOST 1048576: true; the input reads as it did. -/
def hueKeepsUptoRow : OpenClaim := { program := "ythlgokaehkifkaa", sum := "48054645644043d57122071d05376c807b12144ea9d0cb246fa3a31bc980df68", func := "wainscot/wainscotlaw3.HueKeeps", spec := "hueKeeps", apart := false, narrowed := true }
def HueKeepsUptoSaid : Prop := hueKeepsUptoRow.holds Try.pinned (OpenSpec.upto hueKeepsSpec)

/-- 'wainscotlaw3.HueBack', WHERE WHAT IT READS IS OF BULK AT MOST 1048576: true; the input reads as it did. -/
def hueBackUptoRow : OpenClaim := { program := "ythlgokaehkifkaa", sum := "48054645644043d57122071d05376c807b12144ea9d0cb246fa3a31bc980df68", func := "wainscot/wainscotlaw3.HueBack", spec := "hueBack", apart := false, narrowed := true }
def HueBackUptoSaid : Prop := hueBackUptoRow.holds Try.pinned (OpenSpec.upto hueBackSpec)

/-- 'wainscotlaw3.HueGoes', WHERE WHAT IT READS IS OF BULK AT MOST 1048576: true; the input reads as it did. -/
def hueGoesUptoRow : OpenClaim := { program := "ythlgokaehkifkaa", sum := "48054645644043d57122071d05376c807b12144ea9d0cb246fa3a31bc980df68", func := "wainscot/wainscotlaw3.HueGoes", spec := "hueGoes", apart := false, narrowed := true }
def HueGoesUptoSaid : Prop := hueGoesUptoRow.holds Try.pinned (OpenSpec.upto hueGoesSpec)

/-- 'wainscotlaw3.HueMeans', WHERE WHAT IT READS IS OF BULK AT MOST 1048576: true; the input reads as it did. -/
def hueMeansUptoRow : OpenClaim := { program := "ythlgokaehkifkaa", sum := "48054645644043d57122071d05376c807b12144ea9d0cb246fa3a31bc980df68", func := "wainscot/wainscotlaw3.HueMeans", spec := "hueMeans", apart := false, narrowed := true }
def HueMeansUptoSaid : Prop := hueMeansUptoRow.holds Try.pinned (OpenSpec.upto hueMeansSpec)

end Rows
end Go.Proofs.Ythlgokaehkifkaa
