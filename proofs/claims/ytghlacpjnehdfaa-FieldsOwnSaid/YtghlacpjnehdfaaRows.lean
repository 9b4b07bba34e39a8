/-
  No cell of these rows narrows 'for every input' (looked for: loops, veiled, ifaces, maps, wideKeys, modest, calm, conditions, laid).
  DERIVED. THE GIVEN ROWS OF THIS SEAT. 3 by the template 'for every input the law returns true; each argument reads behind the call as it read before'; 0 by the template 'total and deterministic' (their statements: YtghlacpjnehdfaaTotals.lean).
  GIVEN WITH THE SEED: the statements are not yours to turn. If you find one false, say at which input.
  Laid BY PROGRAM, IN A SANDBOX (cutbox-rows.mjs): the forced cells as the released guide's own fill.sh prints them over the translation a5596f2c82f6c149… (all of the seat's roots in one cut). By AI agents, Wed Nov 11 2026. No macro, syntax, notation, axiom, sorry.
-/
import Derived.Test.YtghlacpjnehdfaaChecked
import GoSem.Claim
import GoSem.ClaimJoined
import GoSem.ClaimMapViews
import Derived.JoinedTies
import Derived.KernelRfl
namespace Go.Proofs.Ytghlacpjnehdfaa
/- THE CELL 'sum', in the pinned program and in every row, IS THE sha256 OF THE DUMP (.gsa) THAT YtghlacpjnehdfaaProg.lean LOADS. Nothing in Lean hashes anything: it is a label: what it is worth is what the hold of that sum in a sandbox is worth. -/
noncomputable def Try.pinned : Pinned := { name := "ytghlacpjnehdfaa", sum := "a5596f2c82f6c1494d48d03c364fdf7695190798468a4a3668e0f5df6c231ee8", checked := Try.checked }
namespace Rows
def none {H : Type} : Left H := { results := [], args := [] }

/-- 'quillpenlaw05.FieldsWide': WHATEVER THE INPUT: true; the input reads as it did. -/
def fieldsWideSpec : ChangeSpec := { name := "fieldsWide", fn := fun _ => fun
  | [d] => { results := [.lit (.bool true)], args := [d] }
  | _ => none }
def fieldsWideRow : OpenClaim := { program := "ytghlacpjnehdfaa", sum := "a5596f2c82f6c1494d48d03c364fdf7695190798468a4a3668e0f5df6c231ee8", func := "quillpen/quillpenlaw05.FieldsWide", spec := "fieldsWide", apart := false }
def FieldsWideSaid : Prop := fieldsWideRow.holds Try.pinned (OpenSpec.ofChange fieldsWideSpec)

/-- ITS FALSE NEIGHBOUR: 'it returns false'. Refute it at one input. -/
def fieldsWideWrong : ChangeSpec := { name := "fieldsWide", fn := fun _ => fun
  | [d] => { results := [.lit (.bool false)], args := [d] }
  | _ => none }
def FieldsWideWrongFalsely : Prop := fieldsWideRow.holds Try.pinned (OpenSpec.ofChange fieldsWideWrong)

/-- 'quillpenlaw05.FieldsStops': WHATEVER THE INPUT: true; the input reads as it did. -/
def fieldsStopsSpec : ChangeSpec := { name := "fieldsStops", fn := fun _ => fun
  | [d1, d2, d3] => { results := [.lit (.bool true)], args := [d1, d2, d3] }
  | _ => none }
def fieldsStopsRow : OpenClaim := { program := "ytghlacpjnehdfaa", sum := "a5596f2c82f6c1494d48d03c364fdf7695190798468a4a3668e0f5df6c231ee8", func := "quillpen/quillpenlaw05.FieldsStops", spec := "fieldsStops", apart := false }
def FieldsStopsSaid : Prop := fieldsStopsRow.holds Try.pinned (OpenSpec.ofChange fieldsStopsSpec)

/-- ITS FALSE NEIGHBOUR: 'it returns false'. Refute it at one input. -/
def fieldsStopsWrong : ChangeSpec := { name := "fieldsStops", fn := fun _ => fun
  | [d1, d2, d3] => { results := [.lit (.bool false)], args := [d1, d2, d3] }
  | _ => none }
def FieldsStopsWrongFalsely : Prop := fieldsStopsRow.holds Try.pinned (OpenSpec.ofChange fieldsStopsWrong)

/-- 'quillpenlaw05.FieldsOwn': WHATEVER THE INPUT: true; the input reads as it did. -/
def fieldsOwnSpec : ChangeSpec := { name := "fieldsOwn", fn := fun _ => fun
  | [d] => { results := [.lit (.bool true)], args := [d] }
  | _ => none }
def fieldsOwnRow : OpenClaim := { program := "ytghlacpjnehdfaa", sum := "a5596f2c82f6c1494d48d03c364fdf7695190798468a4a3668e0f5df6c231ee8", func := "quillpen/quillpenlaw05.FieldsOwn", spec := "fieldsOwn", apart := false }
def FieldsOwnSaid : Prop := fieldsOwnRow.holds Try.pinned (OpenSpec.ofChange fieldsOwnSpec)

/-- ITS FALSE NEIGHBOUR: 'it returns false'. Refute it at one input. -/
def fieldsOwnWrong : ChangeSpec := { name := "fieldsOwn", fn := fun _ => fun
  | [d] => { results := [.lit (.bool false)], args := [d] }
  | _ => none }
def FieldsOwnWrongFalsely : Prop := fieldsOwnRow.holds Try.pinned (OpenSpec.ofChange fieldsOwnWrong)

/- THE SECOND FORM. 'bulk': how many values and letters a reading holds, each counted each time it is reached (what is shared counts as often as it is met; a slice's spare places count too). A statement '..UptoSaid' is the law's where the arguments, and the package variables that the reading takes, are together of bulk at most 1048576: NARROWER than '..Said'. Prove '..Said' where nothing that the law and all that it calls make is longer than what came in: it says more and counts as full. Else prove '..UptoSaid'. A law counts once. -/
mutual
def uptoBulk {H : Type} : DataW H → Nat
  | .lit (.string bytes) => bytes.length + 1
  | .lit _ => 1
  | .nil => 1
  | .ptr d => uptoBulk d + 1
  | .slice elems spare => uptoBulkAll elems + uptoBulkAll spare + 1
  | .agg parts => uptoBulkAll parts + 1
  | .iface _ d => uptoBulk d + 1
  | .map entries => uptoBulkEntries entries + 1
  | .held _ => 1
def uptoBulkAll {H : Type} : List (DataW H) → Nat
  | [] => 0
  | d :: r => uptoBulk d + uptoBulkAll r
def uptoBulkEntries {H : Type} : List (Lit × DataW H) → Nat
  | [] => 0
  | x :: r => uptoBulkEntry x + uptoBulkEntries r
def uptoBulkEntry {H : Type} : Lit × DataW H → Nat
  | (.string bytes, d) => bytes.length + uptoBulk d + 1
  | (_, d) => uptoBulk d + 1
 end
def uptoSmall : (H : Type) → List (DataW H) → Bool := fun _ ds => decide (uptoBulkAll ds ≤ 1048576)
def OpenSpec.upto (s : _root_.Go.ChangeSpec) : _root_.Go.OpenSpec := { _root_.Go.OpenSpec.ofChange s with cond := some uptoSmall }

/-- 'quillpenlaw05.FieldsWide', WHERE WHAT IT READS IS OF BULK AT MOST 1048576: true; the input reads as it did. -/
def fieldsWideUptoRow : OpenClaim := { program := "ytghlacpjnehdfaa", sum := "a5596f2c82f6c1494d48d03c364fdf7695190798468a4a3668e0f5df6c231ee8", func := "quillpen/quillpenlaw05.FieldsWide", spec := "fieldsWide", apart := false, narrowed := true }
def FieldsWideUptoSaid : Prop := fieldsWideUptoRow.holds Try.pinned (OpenSpec.upto fieldsWideSpec)

/-- 'quillpenlaw05.FieldsStops', WHERE WHAT IT READS IS OF BULK AT MOST 1048576: true; the input reads as it did. -/
def fieldsStopsUptoRow : OpenClaim := { program := "ytghlacpjnehdfaa", sum := "a5596f2c82f6c1494d48d03c364fdf7695190798468a4a3668e0f5df6c231ee8", func := "quillpen/quillpenlaw05.FieldsStops", spec := "fieldsStops", apart := false, narrowed := true }
def FieldsStopsUptoSaid : Prop := fieldsStopsUptoRow.holds Try.pinned (OpenSpec.upto fieldsStopsSpec)

/-- 'quillpenlaw05.FieldsOwn', WHERE WHAT IT READS IS OF BULK AT MOST 1048576: true; the input reads as it did. -/
def fieldsOwnUptoRow : OpenClaim := { program := "ytghlacpjnehdfaa", sum := "a5596f2c82f6c1494d48d03c364fdf7695190798468a4a3668e0f5df6c231ee8", func := "quillpen/quillpenlaw05.FieldsOwn", spec := "fieldsOwn", apart := false, narrowed := true }
def FieldsOwnUptoSaid : Prop := fieldsOwnUptoRow.holds Try.pinned (OpenSpec.upto fieldsOwnSpec)

end Rows
end Go.Proofs.Ytghlacpjnehdfaa
