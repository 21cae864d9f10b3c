/-
  No cell of these rows narrows 'for every input' (looked for: loops, veiled, ifaces, maps, wideKeys, modest, calm, conditions, laid).
  DERIVED. THE GIVEN ROWS OF THIS SEAT. 7 by the template 'for every input the law returns true; each argument reads behind the call as it read before'; 0 by the template 'total and deterministic' (their statements: YtohnommmmdlnpaaTotals.lean).
  GIVEN WITH THE SEED: the statements are not yours to turn. If you find one false, say at which input.
  Laid BY PROGRAM, IN A SANDBOX (cutbox-rows.mjs): the forced cells as the released guide's own fill.sh prints them over the translation 25dd18249d86867a… (all of the seat's roots in one cut). By AI agents, Wed Nov 11 2026. No macro, syntax, notation, axiom, sorry.
-/
import Derived.Test.YtohnommmmdlnpaaChecked
import GoSem.Claim
import GoSem.ClaimJoined
import GoSem.ClaimMapViews
import Derived.JoinedTies
import Derived.KernelRfl
namespace Go.Proofs.Ytohnommmmdlnpaa
/- THE CELL 'sum', in the pinned program and in every row, IS THE sha256 OF THE DUMP (.gsa) THAT YtohnommmmdlnpaaProg.lean LOADS. Nothing in Lean hashes anything: it is a label: what it is worth is what the hold of that sum in a sandbox is worth. -/
noncomputable def Try.pinned : Pinned := { name := "ytohnommmmdlnpaa", sum := "25dd18249d86867ac5e7897e0f0cdb85185e98e5c8e3f50605dfb82eb5b2fa64", checked := Try.checked }
namespace Rows
def none {H : Type} : Left H := { results := [], args := [] }

/-- 'carpetbaglaw05.PadTells': WHATEVER THE INPUT: true; the input reads as it did. -/
def padTellsSpec : ChangeSpec := { name := "padTells", fn := fun _ => fun
  | [d1, d2, d3] => { results := [.lit (.bool true)], args := [d1, d2, d3] }
  | _ => none }
def padTellsRow : OpenClaim := { program := "ytohnommmmdlnpaa", sum := "25dd18249d86867ac5e7897e0f0cdb85185e98e5c8e3f50605dfb82eb5b2fa64", func := "carpetbag/carpetbaglaw05.PadTells", spec := "padTells", apart := false }
def PadTellsSaid : Prop := padTellsRow.holds Try.pinned (OpenSpec.ofChange padTellsSpec)

/-- ITS FALSE NEIGHBOUR: 'it returns false'. Refute it at one input. -/
def padTellsWrong : ChangeSpec := { name := "padTells", fn := fun _ => fun
  | [d1, d2, d3] => { results := [.lit (.bool false)], args := [d1, d2, d3] }
  | _ => none }
def PadTellsWrongFalsely : Prop := padTellsRow.holds Try.pinned (OpenSpec.ofChange padTellsWrong)

/-- 'carpetbaglaw05.PadBack': WHATEVER THE INPUT: true; the input reads as it did. -/
def padBackSpec : ChangeSpec := { name := "padBack", fn := fun _ => fun
  | [d1, d2] => { results := [.lit (.bool true)], args := [d1, d2] }
  | _ => none }
def padBackRow : OpenClaim := { program := "ytohnommmmdlnpaa", sum := "25dd18249d86867ac5e7897e0f0cdb85185e98e5c8e3f50605dfb82eb5b2fa64", func := "carpetbag/carpetbaglaw05.PadBack", spec := "padBack", apart := false }
def PadBackSaid : Prop := padBackRow.holds Try.pinned (OpenSpec.ofChange padBackSpec)

/-- ITS FALSE NEIGHBOUR: 'it returns false'. Refute it at one input. -/
def padBackWrong : ChangeSpec := { name := "padBack", fn := fun _ => fun
  | [d1, d2] => { results := [.lit (.bool false)], args := [d1, d2] }
  | _ => none }
def PadBackWrongFalsely : Prop := padBackRow.holds Try.pinned (OpenSpec.ofChange padBackWrong)

/-- 'carpetbaglaw05.PadOne': WHATEVER THE INPUT: true; the input reads as it did. -/
def padOneSpec : ChangeSpec := { name := "padOne", fn := fun _ => fun
  | [d1, d2, d3] => { results := [.lit (.bool true)], args := [d1, d2, d3] }
  | _ => none }
def padOneRow : OpenClaim := { program := "ytohnommmmdlnpaa", sum := "25dd18249d86867ac5e7897e0f0cdb85185e98e5c8e3f50605dfb82eb5b2fa64", func := "carpetbag/carpetbaglaw05.PadOne", spec := "padOne", apart := false }
def PadOneSaid : Prop := padOneRow.holds Try.pinned (OpenSpec.ofChange padOneSpec)

/-- ITS FALSE NEIGHBOUR: 'it returns false'. Refute it at one input. -/
def padOneWrong : ChangeSpec := { name := "padOne", fn := fun _ => fun
  | [d1, d2, d3] => { results := [.lit (.bool false)], args := [d1, d2, d3] }
  | _ => none }
def PadOneWrongFalsely : Prop := padOneRow.holds Try.pinned (OpenSpec.ofChange padOneWrong)

/-- 'carpetbaglaw05.PadRises': WHATEVER THE INPUT: true; the input reads as it did. -/
def padRisesSpec : ChangeSpec := { name := "padRises", fn := fun _ => fun
  | [d1, d2] => { results := [.lit (.bool true)], args := [d1, d2] }
  | _ => none }
def padRisesRow : OpenClaim := { program := "ytohnommmmdlnpaa", sum := "25dd18249d86867ac5e7897e0f0cdb85185e98e5c8e3f50605dfb82eb5b2fa64", func := "carpetbag/carpetbaglaw05.PadRises", spec := "padRises", apart := false }
def PadRisesSaid : Prop := padRisesRow.holds Try.pinned (OpenSpec.ofChange padRisesSpec)

/-- ITS FALSE NEIGHBOUR: 'it returns false'. Refute it at one input. -/
def padRisesWrong : ChangeSpec := { name := "padRises", fn := fun _ => fun
  | [d1, d2] => { results := [.lit (.bool false)], args := [d1, d2] }
  | _ => none }
def PadRisesWrongFalsely : Prop := padRisesRow.holds Try.pinned (OpenSpec.ofChange padRisesWrong)

/-- 'carpetbaglaw05.PadAlike': WHATEVER THE INPUT: true; the input reads as it did. -/
def padAlikeSpec : ChangeSpec := { name := "padAlike", fn := fun _ => fun
  | [d1, d2] => { results := [.lit (.bool true)], args := [d1, d2] }
  | _ => none }
def padAlikeRow : OpenClaim := { program := "ytohnommmmdlnpaa", sum := "25dd18249d86867ac5e7897e0f0cdb85185e98e5c8e3f50605dfb82eb5b2fa64", func := "carpetbag/carpetbaglaw05.PadAlike", spec := "padAlike", apart := false }
def PadAlikeSaid : Prop := padAlikeRow.holds Try.pinned (OpenSpec.ofChange padAlikeSpec)

/-- ITS FALSE NEIGHBOUR: 'it returns false'. Refute it at one input. -/
def padAlikeWrong : ChangeSpec := { name := "padAlike", fn := fun _ => fun
  | [d1, d2] => { results := [.lit (.bool false)], args := [d1, d2] }
  | _ => none }
def PadAlikeWrongFalsely : Prop := padAlikeRow.holds Try.pinned (OpenSpec.ofChange padAlikeWrong)

/-- 'carpetbaglaw05.PadSizes': WHATEVER THE INPUT: true; the input reads as it did. -/
def padSizesSpec : ChangeSpec := { name := "padSizes", fn := fun _ => fun
  | [d] => { results := [.lit (.bool true)], args := [d] }
  | _ => none }
def padSizesRow : OpenClaim := { program := "ytohnommmmdlnpaa", sum := "25dd18249d86867ac5e7897e0f0cdb85185e98e5c8e3f50605dfb82eb5b2fa64", func := "carpetbag/carpetbaglaw05.PadSizes", spec := "padSizes", apart := false }
def PadSizesSaid : Prop := padSizesRow.holds Try.pinned (OpenSpec.ofChange padSizesSpec)

/-- ITS FALSE NEIGHBOUR: 'it returns false'. Refute it at one input. -/
def padSizesWrong : ChangeSpec := { name := "padSizes", fn := fun _ => fun
  | [d] => { results := [.lit (.bool false)], args := [d] }
  | _ => none }
def PadSizesWrongFalsely : Prop := padSizesRow.holds Try.pinned (OpenSpec.ofChange padSizesWrong)

/-- 'carpetbaglaw05.PadZeros': WHATEVER THE INPUT: true; the input reads as it did. -/
def padZerosSpec : ChangeSpec := { name := "padZeros", fn := fun _ => fun
  | [d1, d2] => { results := [.lit (.bool true)], args := [d1, d2] }
  | _ => none }
def padZerosRow : OpenClaim := { program := "ytohnommmmdlnpaa", sum := "25dd18249d86867ac5e7897e0f0cdb85185e98e5c8e3f50605dfb82eb5b2fa64", func := "carpetbag/carpetbaglaw05.PadZeros", spec := "padZeros", apart := false }
def PadZerosSaid : Prop := padZerosRow.holds Try.pinned (OpenSpec.ofChange padZerosSpec)

/-- ITS FALSE NEIGHBOUR: 'it returns false'. Refute it at one input. -/
def padZerosWrong : ChangeSpec := { name := "padZeros", fn := fun _ => fun
  | [d1, d2] => { results := [.lit (.bool false)], args := [d1, d2] }
  | _ => none }
def PadZerosWrongFalsely : Prop := padZerosRow.holds Try.pinned (OpenSpec.ofChange padZerosWrong)

/- THE SECOND FORM. 'bulk': how many values and letters a reading holds, each counted each time it is reached (what is shared counts as often as it is met; a slice's spare places count too). A statement '..UptoSaid' is the law's where the arguments, and the package variables that the reading takes, are together of bulk at most 1048576: NARROWER than '..Said'. Prove '..Said' where nothing that the law and all that it calls make is longer than what came in: it says more and counts as full. Else prove '..UptoSaid'. A law counts once. -/
mutual
def uptoBulk {H : Type} : DataW H → Nat
  | .lit (.string bytes) => bytes.length + 1
  | .lit _ => 1
  | .nil => 1
  | .ptr d => uptoBulk d + 1
  | .slice elems spare => uptoBulkAll elems + uptoBulkAll spare + 1
  | .agg parts => uptoBulkAll parts + 1
  | .iface _ d => uptoBulk d + 1
  | .map entries => uptoBulkEntries entries + 1
  | .held _ => 1
def uptoBulkAll {H : Type} : List (DataW H) → Nat
  | [] => 0
  | d :: r => uptoBulk d + uptoBulkAll r
def uptoBulkEntries {H : Type} : List (Lit × DataW H) → Nat
  | [] => 0
  | x :: r => uptoBulkEntry x + uptoBulkEntries r
def uptoBulkEntry {H : Type} : Lit × DataW H → Nat
  | (.string bytes, d) => bytes.length + uptoBulk d + 1
  | (_, d) => uptoBulk d + 1
 end
def uptoSmall : (H : Type) → List (DataW H) → Bool := fun _ ds => decide (uptoBulkAll ds ≤ 1048576)
def OpenSpec.upto (s : _root_.Go.ChangeSpec) : _root_.Go.OpenSpec := { _root_.Go.OpenSpec.ofChange s with cond := some uptoSmall }

/-- 'carpetbaglaw05.PadTells', WHERE WHAT IT READS IS OF BULK AT MOST 1048576: true; the input reads as it did. -/
def padTellsUptoRow : OpenClaim := { program := "ytohnommmmdlnpaa", sum := "25dd18249d86867ac5e7897e0f0cdb85185e98e5c8e3f50605dfb82eb5b2fa64", func := "carpetbag/carpetbaglaw05.PadTells", spec := "padTells", apart := false, narrowed := true }
def PadTellsUptoSaid : Prop := padTellsUptoRow.holds Try.pinned (OpenSpec.upto padTellsSpec)

/-- 'carpetbaglaw05.PadBack', WHERE WHAT IT READS IS OF BULK AT MOST 1048576: true; the input reads as it did. -/
def padBackUptoRow : OpenClaim := { program := "ytohnommmmdlnpaa", sum := "25dd18249d86867ac5e7897e0f0cdb85185e98e5c8e3f50605dfb82eb5b2fa64", func := "carpetbag/carpetbaglaw05.PadBack", spec := "padBack", apart := false, narrowed := true }
def PadBackUptoSaid : Prop := padBackUptoRow.holds Try.pinned (OpenSpec.upto padBackSpec)

/-- 'carpetbaglaw05.PadOne', WHERE WHAT IT READS IS OF BULK AT MOST 1048576: true; the input reads as it did. -/
def padOneUptoRow : OpenClaim := { program := "ytohnommmmdlnpaa", sum := "25dd18249d86867ac5e7897e0f0cdb85185e98e5c8e3f50605dfb82eb5b2fa64", func := "carpetbag/carpetbaglaw05.PadOne", spec := "padOne", apart := false, narrowed := true }
def PadOneUptoSaid : Prop := padOneUptoRow.holds Try.pinned (OpenSpec.upto padOneSpec)

/-- 'carpetbaglaw05.PadRises', WHERE WHAT IT READS IS OF BULK AT MOST 1048576: true; the input reads as it did. -/
def padRisesUptoRow : OpenClaim := { program := "ytohnommmmdlnpaa", sum := "25dd18249d86867ac5e7897e0f0cdb85185e98e5c8e3f50605dfb82eb5b2fa64", func := "carpetbag/carpetbaglaw05.PadRises", spec := "padRises", apart := false, narrowed := true }
def PadRisesUptoSaid : Prop := padRisesUptoRow.holds Try.pinned (OpenSpec.upto padRisesSpec)

/-- 'carpetbaglaw05.PadAlike', WHERE WHAT IT READS IS OF BULK AT MOST 1048576: true; the input reads as it did. -/
def padAlikeUptoRow : OpenClaim := { program := "ytohnommmmdlnpaa", sum := "25dd18249d86867ac5e7897e0f0cdb85185e98e5c8e3f50605dfb82eb5b2fa64", func := "carpetbag/carpetbaglaw05.PadAlike", spec := "padAlike", apart := false, narrowed := true }
def PadAlikeUptoSaid : Prop := padAlikeUptoRow.holds Try.pinned (OpenSpec.upto padAlikeSpec)

/-- 'carpetbaglaw05.PadSizes', WHERE WHAT IT READS IS OF BULK AT MOST 1048576: true; the input reads as it did. -/
def padSizesUptoRow : OpenClaim := { program := "ytohnommmmdlnpaa", sum := "25dd18249d86867ac5e7897e0f0cdb85185e98e5c8e3f50605dfb82eb5b2fa64", func := "carpetbag/carpetbaglaw05.PadSizes", spec := "padSizes", apart := false, narrowed := true }
def PadSizesUptoSaid : Prop := padSizesUptoRow.holds Try.pinned (OpenSpec.upto padSizesSpec)

/-- 'carpetbaglaw05.PadZeros', WHERE WHAT IT READS IS OF BULK AT MOST 1048576: true; the input reads as it did. -/
def padZerosUptoRow : OpenClaim := { program := "ytohnommmmdlnpaa", sum := "25dd18249d86867ac5e7897e0f0cdb85185e98e5c8e3f50605dfb82eb5b2fa64", func := "carpetbag/carpetbaglaw05.PadZeros", spec := "padZeros", apart := false, narrowed := true }
def PadZerosUptoSaid : Prop := padZerosUptoRow.holds Try.pinned (OpenSpec.upto padZerosSpec)

end Rows
end Go.Proofs.Ytohnommmmdlnpaa
