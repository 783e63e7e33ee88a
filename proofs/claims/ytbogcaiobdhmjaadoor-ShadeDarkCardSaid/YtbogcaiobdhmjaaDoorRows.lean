/-
  NARROWER THAN 'FOR EVERY INPUT', by the rows' own cells (each row's printed sentence says how): ShadeTells: laid · ShadeHangs: laid · ShadeDark: laid.
  DERIVED. THE GIVEN ROWS OF THIS SEAT. 3 by the template 'for every input the law returns true; each argument reads behind the call as it read before'; 0 by the template 'total and deterministic' (their statements: YtbogcaiobdhmjaaDoorTotals.lean).
  GIVEN WITH THE SEED: the statements are not yours to turn. If you find one false, say at which input.
  Laid BY PROGRAM, IN A SANDBOX (cutbox-rows.mjs): the forced cells as the released guide's own fill.sh prints them over the translation 5d320b21123f6686… (all of the seat's roots in one cut). By AI agents, Wed Nov 11 2026. No macro, syntax, notation, axiom, sorry.
-/
import Derived.Test.YtbogcaiobdhmjaaDoorChecked
import GoSem.Claim
import GoSem.ClaimJoined
import GoSem.ClaimMapViews
import Derived.JoinedTies
import Derived.KernelRfl
namespace Go.Proofs.YtbogcaiobdhmjaaDoor
/- THE CELL 'sum', in the pinned program and in every row, IS THE sha256 OF THE DUMP (.gsa) THAT YtbogcaiobdhmjaaDoorProg.lean LOADS. Nothing in Lean hashes anything: it is a label: what it is worth is what the hold of that sum in a sandbox is worth. -/
noncomputable def Tryd.pinned : Pinned := { name := "ytbogcaiobdhmjaadoor", sum := "5d320b21123f6686ab4464b48cc032657c0aa3640a094a3c3a27f7722661c60f", checked := Tryd.checked }
namespace Rows
def none {H : Type} : Left H := { results := [], args := [] }

/- WHAT THE LISTED PACKAGE-LEVEL VARIABLES READ AS WHEN THE CALL BEGINS. Each datum BY PROGRAM (the guide's laid-datum.mjs) off the statement by which the dump's own 'gosem.cut.vars' lays the variable. In a bare row this is a premise. The card (YtbogcaiobdhmjaaDoorCards.lean) ties it to the program's text. -/
def laid_wainscot_shade_rows {H : Type} : DataW H := .agg [.agg [.lit (.bool false), .lit (.bool false), .lit (.bool false), .lit (.bool false)], .agg [.lit (.bool false), .lit (.bool false), .lit (.bool true), .lit (.bool false)], .agg [.lit (.bool true), .lit (.bool true), .lit (.bool false), .lit (.bool false)], .agg [.lit (.bool true), .lit (.bool true), .lit (.bool true), .lit (.bool false)], .agg [.lit (.bool true), .lit (.bool false), .lit (.bool true), .lit (.bool true)]]

/-- 'wainscotlaw28.ShadeTells': WHATEVER THE INPUT: true; the input reads as it did. -/
def shadeTellsSpec : ChangeSpec := { name := "shadeTells", fn := fun _ => fun
  | [d1, d2, d3, d4] => { results := [.lit (.bool true)], args := [d1, d2, d3, d4] }
  | _ => none }
def shadeTellsRow : OpenClaim := { program := "ytbogcaiobdhmjaadoor", sum := "5d320b21123f6686ab4464b48cc032657c0aa3640a094a3c3a27f7722661c60f", func := "wainscot/wainscotlaw28.ShadeTells", spec := "shadeTells", named := ["wainscot/shade.rows"], apart := false, laid := [("wainscot/shade.rows", laid_wainscot_shade_rows)] }
def ShadeTellsSaid : Prop := shadeTellsRow.holds Tryd.pinned (OpenSpec.ofChange shadeTellsSpec)

/-- ITS FALSE NEIGHBOUR: 'it returns false'. Refute it at one input. -/
def shadeTellsWrong : ChangeSpec := { name := "shadeTells", fn := fun _ => fun
  | [d1, d2, d3, d4] => { results := [.lit (.bool false)], args := [d1, d2, d3, d4] }
  | _ => none }
def ShadeTellsWrongFalsely : Prop := shadeTellsRow.holds Tryd.pinned (OpenSpec.ofChange shadeTellsWrong)

/-- 'wainscotlaw28.ShadeHangs': WHATEVER THE INPUT: true; the input reads as it did. -/
def shadeHangsSpec : ChangeSpec := { name := "shadeHangs", fn := fun _ => fun
  | [d1, d2, d3, d4] => { results := [.lit (.bool true)], args := [d1, d2, d3, d4] }
  | _ => none }
def shadeHangsRow : OpenClaim := { program := "ytbogcaiobdhmjaadoor", sum := "5d320b21123f6686ab4464b48cc032657c0aa3640a094a3c3a27f7722661c60f", func := "wainscot/wainscotlaw28.ShadeHangs", spec := "shadeHangs", named := ["wainscot/shade.rows"], apart := false, laid := [("wainscot/shade.rows", laid_wainscot_shade_rows)] }
def ShadeHangsSaid : Prop := shadeHangsRow.holds Tryd.pinned (OpenSpec.ofChange shadeHangsSpec)

/-- ITS FALSE NEIGHBOUR: 'it returns false'. Refute it at one input. -/
def shadeHangsWrong : ChangeSpec := { name := "shadeHangs", fn := fun _ => fun
  | [d1, d2, d3, d4] => { results := [.lit (.bool false)], args := [d1, d2, d3, d4] }
  | _ => none }
def ShadeHangsWrongFalsely : Prop := shadeHangsRow.holds Tryd.pinned (OpenSpec.ofChange shadeHangsWrong)

/-- 'wainscotlaw28.ShadeDark': WHATEVER THE INPUT: true; the input reads as it did. -/
def shadeDarkSpec : ChangeSpec := { name := "shadeDark", fn := fun _ => fun
  | [d1, d2, d3] => { results := [.lit (.bool true)], args := [d1, d2, d3] }
  | _ => none }
def shadeDarkRow : OpenClaim := { program := "ytbogcaiobdhmjaadoor", sum := "5d320b21123f6686ab4464b48cc032657c0aa3640a094a3c3a27f7722661c60f", func := "wainscot/wainscotlaw28.ShadeDark", spec := "shadeDark", named := ["wainscot/shade.rows"], apart := false, laid := [("wainscot/shade.rows", laid_wainscot_shade_rows)] }
def ShadeDarkSaid : Prop := shadeDarkRow.holds Tryd.pinned (OpenSpec.ofChange shadeDarkSpec)

/-- ITS FALSE NEIGHBOUR: 'it returns false'. Refute it at one input. -/
def shadeDarkWrong : ChangeSpec := { name := "shadeDark", fn := fun _ => fun
  | [d1, d2, d3] => { results := [.lit (.bool false)], args := [d1, d2, d3] }
  | _ => none }
def ShadeDarkWrongFalsely : Prop := shadeDarkRow.holds Tryd.pinned (OpenSpec.ofChange shadeDarkWrong)

/- THE SECOND FORM. 'bulk': how many values and letters a reading holds, each counted each time it is reached (what is shared counts as often as it is met; a slice's spare places count too). A statement '..UptoSaid' is the law's where the arguments, and the package variables that the reading takes, are together of bulk at most 1048576: NARROWER than '..Said'. Prove '..Said' where nothing that the law and all that it calls make is longer than what came in: it says more and counts as full. Else prove '..UptoSaid'. A law counts once. -/
mutual
def uptoBulk {H : Type} : DataW H → Nat
  | .lit (.string bytes) => bytes.length + 1
  | .lit _ => 1
  | .nil => 1
  | .ptr d => uptoBulk d + 1
  | .slice elems spare => uptoBulkAll elems + uptoBulkAll spare + 1
  | .agg parts => uptoBulkAll parts + 1
  | .iface _ d => uptoBulk d + 1
  | .map entries => uptoBulkEntries entries + 1
  | .held _ => 1
def uptoBulkAll {H : Type} : List (DataW H) → Nat
  | [] => 0
  | d :: r => uptoBulk d + uptoBulkAll r
def uptoBulkEntries {H : Type} : List (Lit × DataW H) → Nat
  | [] => 0
  | x :: r => uptoBulkEntry x + uptoBulkEntries r
def uptoBulkEntry {H : Type} : Lit × DataW H → Nat
  | (.string bytes, d) => bytes.length + uptoBulk d + 1
  | (_, d) => uptoBulk d + 1
 end
def uptoSmall : (H : Type) → List (DataW H) → Bool := fun _ ds => decide (uptoBulkAll ds ≤ 1048576)
def OpenSpec.upto (s : _root_.Go.ChangeSpec) : _root_.Go.OpenSpec := { _root_.Go.OpenSpec.ofChange s with cond := some uptoSmall }

/-- 'wainscotlaw28.ShadeTells', WHERE WHAT IT READS IS OF BULK AT MOST 1048576: true; the input reads as it did. -/
def shadeTellsUptoRow : OpenClaim := { program := "ytbogcaiobdhmjaadoor", sum := "5d320b21123f6686ab4464b48cc032657c0aa3640a094a3c3a27f7722661c60f", func := "wainscot/wainscotlaw28.ShadeTells", spec := "shadeTells", named := ["wainscot/shade.rows"], apart := false, laid := [("wainscot/shade.rows", laid_wainscot_shade_rows)], narrowed := true }
def ShadeTellsUptoSaid : Prop := shadeTellsUptoRow.holds Tryd.pinned (OpenSpec.upto shadeTellsSpec)

/-- 'wainscotlaw28.ShadeHangs', WHERE WHAT IT READS IS OF BULK AT MOST 1048576: true; the input reads as it did. -/
def shadeHangsUptoRow : OpenClaim := { program := "ytbogcaiobdhmjaadoor", sum := "5d320b21123f6686ab4464b48cc032657c0aa3640a094a3c3a27f7722661c60f", func := "wainscot/wainscotlaw28.ShadeHangs", spec := "shadeHangs", named := ["wainscot/shade.rows"], apart := false, laid := [("wainscot/shade.rows", laid_wainscot_shade_rows)], narrowed := true }
def ShadeHangsUptoSaid : Prop := shadeHangsUptoRow.holds Tryd.pinned (OpenSpec.upto shadeHangsSpec)

/-- 'wainscotlaw28.ShadeDark', WHERE WHAT IT READS IS OF BULK AT MOST 1048576: true; the input reads as it did. -/
def shadeDarkUptoRow : OpenClaim := { program := "ytbogcaiobdhmjaadoor", sum := "5d320b21123f6686ab4464b48cc032657c0aa3640a094a3c3a27f7722661c60f", func := "wainscot/wainscotlaw28.ShadeDark", spec := "shadeDark", named := ["wainscot/shade.rows"], apart := false, laid := [("wainscot/shade.rows", laid_wainscot_shade_rows)], narrowed := true }
def ShadeDarkUptoSaid : Prop := shadeDarkUptoRow.holds Tryd.pinned (OpenSpec.upto shadeDarkSpec)

end Rows
end Go.Proofs.YtbogcaiobdhmjaaDoor
