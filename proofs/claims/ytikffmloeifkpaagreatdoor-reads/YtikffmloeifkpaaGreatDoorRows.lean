/-
  NARROWER THAN 'FOR EVERY INPUT', by the rows' own cells (each row's printed sentence says how): Reads: laid · Walks: laid · Less: laid · Reckoned: laid · Sites: laid · Careful: laid · Plain: laid · Printed: laid · Codes: laid · Coded: laid · Loaded: laid.
  DERIVED. THE GIVEN ROWS OF THIS SEAT. 11 by the template 'for every input the law returns true; each argument reads behind the call as it read before'; 0 by the template 'total and deterministic' (their statements: YtikffmloeifkpaaGreatDoorTotals.lean).
  GIVEN WITH THE SEED: the statements are not yours to turn. If you find one false, say at which input.
  Laid BY PROGRAM, IN A SANDBOX (cutbox-rows.mjs): the forced cells as the released guide's own fill.sh prints them over the translation 33f6eaa44211feae… (all of the seat's roots in one cut). By AI agents, Wed Nov 11 2026. No macro, syntax, notation, axiom, sorry.
-/
import Derived.Test.YtikffmloeifkpaaGreatDoorChecked
import GoSem.Claim
import GoSem.ClaimJoined
import GoSem.ClaimMapViews
import Derived.JoinedTies
import Derived.KernelRfl
namespace Go.Proofs.YtikffmloeifkpaaGreatDoor
/- THE CELL 'sum', in the pinned program and in every row, IS THE sha256 OF THE DUMP (.gsa) THAT YtikffmloeifkpaaGreatDoorProg.lean LOADS. Nothing in Lean hashes anything: it is a label: what it is worth is what the hold of that sum in a sandbox is worth. -/
noncomputable def Tryz.pinned : Pinned := { name := "ytikffmloeifkpaagreatdoor", sum := "33f6eaa44211feae3f2435962c3d591a106ddf4a6bb067fb5b133e304eefe727", checked := Tryz.checked }
namespace Rows
def none {H : Type} : Left H := { results := [], args := [] }

/- WHAT THE LISTED PACKAGE-LEVEL VARIABLES READ AS WHEN THE CALL BEGINS. Each datum BY PROGRAM (the guide's laid-datum.mjs) off the statement by which the dump's own 'gosem.cut.vars' lays the variable. In a bare row this is a premise. The card (YtikffmloeifkpaaGreatDoorCards.lean) ties it to the program's text. -/
def laid_surefoot_words_spellings {H : Type} : DataW H := .agg [.lit (.string []), .lit (.string []), .lit (.string []), .lit (.string [97, 114, 114]), .lit (.string [102, 110]), .lit (.string [119, 104, 101, 114, 101]), .lit (.string [108, 101, 116]), .lit (.string [105, 102]), .lit (.string [101, 108, 115, 101]), .lit (.string [119, 104, 105, 108, 101]), .lit (.string [114, 101, 116, 117, 114, 110]), .lit (.string [111, 117, 116]), .lit (.string [40]), .lit (.string [41]), .lit (.string [123]), .lit (.string [125]), .lit (.string [91]), .lit (.string [93]), .lit (.string [44]), .lit (.string [59]), .lit (.string [61]), .lit (.string [61, 61]), .lit (.string [33, 61]), .lit (.string [60]), .lit (.string [60, 61]), .lit (.string [62]), .lit (.string [62, 61]), .lit (.string [43]), .lit (.string [45]), .lit (.string [42]), .lit (.string [47]), .lit (.string [37]), .lit (.string [38, 38]), .lit (.string [124, 124])]
def laid_math_bits_deBruijn32tab {H : Type} : DataW H := .agg [.lit (.int .u8 0), .lit (.int .u8 1), .lit (.int .u8 28), .lit (.int .u8 2), .lit (.int .u8 29), .lit (.int .u8 14), .lit (.int .u8 24), .lit (.int .u8 3), .lit (.int .u8 30), .lit (.int .u8 22), .lit (.int .u8 20), .lit (.int .u8 15), .lit (.int .u8 25), .lit (.int .u8 17), .lit (.int .u8 4), .lit (.int .u8 8), .lit (.int .u8 31), .lit (.int .u8 27), .lit (.int .u8 13), .lit (.int .u8 23), .lit (.int .u8 21), .lit (.int .u8 19), .lit (.int .u8 16), .lit (.int .u8 7), .lit (.int .u8 26), .lit (.int .u8 12), .lit (.int .u8 18), .lit (.int .u8 6), .lit (.int .u8 11), .lit (.int .u8 5), .lit (.int .u8 10), .lit (.int .u8 9)]
def laid_math_bits_deBruijn64tab {H : Type} : DataW H := .agg [.lit (.int .u8 0), .lit (.int .u8 1), .lit (.int .u8 56), .lit (.int .u8 2), .lit (.int .u8 57), .lit (.int .u8 49), .lit (.int .u8 28), .lit (.int .u8 3), .lit (.int .u8 61), .lit (.int .u8 58), .lit (.int .u8 42), .lit (.int .u8 50), .lit (.int .u8 38), .lit (.int .u8 29), .lit (.int .u8 17), .lit (.int .u8 4), .lit (.int .u8 62), .lit (.int .u8 47), .lit (.int .u8 59), .lit (.int .u8 36), .lit (.int .u8 45), .lit (.int .u8 43), .lit (.int .u8 51), .lit (.int .u8 22), .lit (.int .u8 53), .lit (.int .u8 39), .lit (.int .u8 33), .lit (.int .u8 30), .lit (.int .u8 24), .lit (.int .u8 18), .lit (.int .u8 12), .lit (.int .u8 5), .lit (.int .u8 63), .lit (.int .u8 55), .lit (.int .u8 48), .lit (.int .u8 27), .lit (.int .u8 60), .lit (.int .u8 41), .lit (.int .u8 37), .lit (.int .u8 16), .lit (.int .u8 46), .lit (.int .u8 35), .lit (.int .u8 44), .lit (.int .u8 21), .lit (.int .u8 52), .lit (.int .u8 32), .lit (.int .u8 23), .lit (.int .u8 11), .lit (.int .u8 54), .lit (.int .u8 26), .lit (.int .u8 40), .lit (.int .u8 15), .lit (.int .u8 34), .lit (.int .u8 20), .lit (.int .u8 31), .lit (.int .u8 10), .lit (.int .u8 25), .lit (.int .u8 14), .lit (.int .u8 19), .lit (.int .u8 9), .lit (.int .u8 13), .lit (.int .u8 8), .lit (.int .u8 7), .lit (.int .u8 6)]
def laid_internal_strconv_uint64pow10 {H : Type} : DataW H := .agg [.lit (.int .u64 1), .lit (.int .u64 10), .lit (.int .u64 100), .lit (.int .u64 1000), .lit (.int .u64 10000), .lit (.int .u64 100000), .lit (.int .u64 1000000), .lit (.int .u64 10000000), .lit (.int .u64 100000000), .lit (.int .u64 1000000000), .lit (.int .u64 10000000000), .lit (.int .u64 100000000000), .lit (.int .u64 1000000000000), .lit (.int .u64 10000000000000), .lit (.int .u64 100000000000000), .lit (.int .u64 1000000000000000), .lit (.int .u64 10000000000000000), .lit (.int .u64 100000000000000000), .lit (.int .u64 1000000000000000000), .lit (.int .u64 10000000000000000000)]

/-- 'surefootlaw.Reads': WHATEVER THE INPUT: true; the input reads as it did. -/
def readsSpec : ChangeSpec := { name := "reads", fn := fun _ => fun
  | [d] => { results := [.lit (.bool true)], args := [d] }
  | _ => none }
def readsRow : OpenClaim := { program := "ytikffmloeifkpaagreatdoor", sum := "33f6eaa44211feae3f2435962c3d591a106ddf4a6bb067fb5b133e304eefe727", func := "surefoot/surefootlaw.Reads", spec := "reads", unfollowed := true, recurses := true, named := ["surefoot/words.spellings"], apart := false, laid := [("surefoot/words.spellings", laid_surefoot_words_spellings)] }
def ReadsSaid : Prop := readsRow.holds Tryz.pinned (OpenSpec.ofChange readsSpec)

/-- ITS FALSE NEIGHBOUR: 'it returns false'. Refute it at one input. -/
def readsWrong : ChangeSpec := { name := "reads", fn := fun _ => fun
  | [d] => { results := [.lit (.bool false)], args := [d] }
  | _ => none }
def ReadsWrongFalsely : Prop := readsRow.holds Tryz.pinned (OpenSpec.ofChange readsWrong)

/-- 'surefootlaw.Walks': WHATEVER THE INPUT: true; the input reads as it did. -/
def walksSpec : ChangeSpec := { name := "walks", fn := fun _ => fun
  | [d1, d2, d3] => { results := [.lit (.bool true)], args := [d1, d2, d3] }
  | _ => none }
def walksRow : OpenClaim := { program := "ytikffmloeifkpaagreatdoor", sum := "33f6eaa44211feae3f2435962c3d591a106ddf4a6bb067fb5b133e304eefe727", func := "surefoot/surefootlaw.Walks", spec := "walks", unfollowed := true, recurses := true, named := ["surefoot/words.spellings"], apart := false, laid := [("surefoot/words.spellings", laid_surefoot_words_spellings)] }
def WalksSaid : Prop := walksRow.holds Tryz.pinned (OpenSpec.ofChange walksSpec)

/-- ITS FALSE NEIGHBOUR: 'it returns false'. Refute it at one input. -/
def walksWrong : ChangeSpec := { name := "walks", fn := fun _ => fun
  | [d1, d2, d3] => { results := [.lit (.bool false)], args := [d1, d2, d3] }
  | _ => none }
def WalksWrongFalsely : Prop := walksRow.holds Tryz.pinned (OpenSpec.ofChange walksWrong)

/-- 'surefootkeep.Less': WHATEVER THE INPUT: true; the input reads as it did. -/
def lessSpec : ChangeSpec := { name := "less", fn := fun _ => fun
  | [d1, d2, d3, d4] => { results := [.lit (.bool true)], args := [d1, d2, d3, d4] }
  | _ => none }
def lessRow : OpenClaim := { program := "ytikffmloeifkpaagreatdoor", sum := "33f6eaa44211feae3f2435962c3d591a106ddf4a6bb067fb5b133e304eefe727", func := "surefoot/surefootkeep.Less", spec := "less", unfollowed := true, recurses := true, named := ["surefoot/words.spellings"], apart := false, laid := [("surefoot/words.spellings", laid_surefoot_words_spellings)] }
def LessSaid : Prop := lessRow.holds Tryz.pinned (OpenSpec.ofChange lessSpec)

/-- ITS FALSE NEIGHBOUR: 'it returns false'. Refute it at one input. -/
def lessWrong : ChangeSpec := { name := "less", fn := fun _ => fun
  | [d1, d2, d3, d4] => { results := [.lit (.bool false)], args := [d1, d2, d3, d4] }
  | _ => none }
def LessWrongFalsely : Prop := lessRow.holds Tryz.pinned (OpenSpec.ofChange lessWrong)

/-- 'surefootkeep.Reckoned': WHATEVER THE INPUT: true; the input reads as it did. -/
def reckonedSpec : ChangeSpec := { name := "reckoned", fn := fun _ => fun
  | [d1, d2, d3, d4, d5] => { results := [.lit (.bool true)], args := [d1, d2, d3, d4, d5] }
  | _ => none }
def reckonedRow : OpenClaim := { program := "ytikffmloeifkpaagreatdoor", sum := "33f6eaa44211feae3f2435962c3d591a106ddf4a6bb067fb5b133e304eefe727", func := "surefoot/surefootkeep.Reckoned", spec := "reckoned", unfollowed := true, recurses := true, named := ["surefoot/words.spellings"], apart := false, laid := [("surefoot/words.spellings", laid_surefoot_words_spellings)] }
def ReckonedSaid : Prop := reckonedRow.holds Tryz.pinned (OpenSpec.ofChange reckonedSpec)

/-- ITS FALSE NEIGHBOUR: 'it returns false'. Refute it at one input. -/
def reckonedWrong : ChangeSpec := { name := "reckoned", fn := fun _ => fun
  | [d1, d2, d3, d4, d5] => { results := [.lit (.bool false)], args := [d1, d2, d3, d4, d5] }
  | _ => none }
def ReckonedWrongFalsely : Prop := reckonedRow.holds Tryz.pinned (OpenSpec.ofChange reckonedWrong)

/-- 'surefootlaw.Sites': WHATEVER THE INPUT: true; the input reads as it did. -/
def sitesSpec : ChangeSpec := { name := "sites", fn := fun _ => fun
  | [d1, d2] => { results := [.lit (.bool true)], args := [d1, d2] }
  | _ => none }
def sitesRow : OpenClaim := { program := "ytikffmloeifkpaagreatdoor", sum := "33f6eaa44211feae3f2435962c3d591a106ddf4a6bb067fb5b133e304eefe727", func := "surefoot/surefootlaw.Sites", spec := "sites", unfollowed := true, recurses := true, named := ["surefoot/words.spellings"], apart := false, laid := [("surefoot/words.spellings", laid_surefoot_words_spellings)] }
def SitesSaid : Prop := sitesRow.holds Tryz.pinned (OpenSpec.ofChange sitesSpec)

/-- ITS FALSE NEIGHBOUR: 'it returns false'. Refute it at one input. -/
def sitesWrong : ChangeSpec := { name := "sites", fn := fun _ => fun
  | [d1, d2] => { results := [.lit (.bool false)], args := [d1, d2] }
  | _ => none }
def SitesWrongFalsely : Prop := sitesRow.holds Tryz.pinned (OpenSpec.ofChange sitesWrong)

/-- 'surefootkeep.Careful': WHATEVER THE INPUT: true; the input reads as it did. -/
def carefulSpec : ChangeSpec := { name := "careful", fn := fun _ => fun
  | [d1, d2, d3] => { results := [.lit (.bool true)], args := [d1, d2, d3] }
  | _ => none }
def carefulRow : OpenClaim := { program := "ytikffmloeifkpaagreatdoor", sum := "33f6eaa44211feae3f2435962c3d591a106ddf4a6bb067fb5b133e304eefe727", func := "surefoot/surefootkeep.Careful", spec := "careful", unfollowed := true, recurses := true, named := ["surefoot/words.spellings"], apart := false, laid := [("surefoot/words.spellings", laid_surefoot_words_spellings)] }
def CarefulSaid : Prop := carefulRow.holds Tryz.pinned (OpenSpec.ofChange carefulSpec)

/-- ITS FALSE NEIGHBOUR: 'it returns false'. Refute it at one input. -/
def carefulWrong : ChangeSpec := { name := "careful", fn := fun _ => fun
  | [d1, d2, d3] => { results := [.lit (.bool false)], args := [d1, d2, d3] }
  | _ => none }
def CarefulWrongFalsely : Prop := carefulRow.holds Tryz.pinned (OpenSpec.ofChange carefulWrong)

/-- 'surefootkeep.Plain': WHATEVER THE INPUT: true; the input reads as it did. -/
def plainSpec : ChangeSpec := { name := "plain", fn := fun _ => fun
  | [d1, d2, d3, d4] => { results := [.lit (.bool true)], args := [d1, d2, d3, d4] }
  | _ => none }
def plainRow : OpenClaim := { program := "ytikffmloeifkpaagreatdoor", sum := "33f6eaa44211feae3f2435962c3d591a106ddf4a6bb067fb5b133e304eefe727", func := "surefoot/surefootkeep.Plain", spec := "plain", unfollowed := true, recurses := true, named := ["surefoot/words.spellings"], apart := false, laid := [("surefoot/words.spellings", laid_surefoot_words_spellings)] }
def PlainSaid : Prop := plainRow.holds Tryz.pinned (OpenSpec.ofChange plainSpec)

/-- ITS FALSE NEIGHBOUR: 'it returns false'. Refute it at one input. -/
def plainWrong : ChangeSpec := { name := "plain", fn := fun _ => fun
  | [d1, d2, d3, d4] => { results := [.lit (.bool false)], args := [d1, d2, d3, d4] }
  | _ => none }
def PlainWrongFalsely : Prop := plainRow.holds Tryz.pinned (OpenSpec.ofChange plainWrong)

/-- 'surefootkeep.Printed': WHATEVER THE INPUT: true; the input reads as it did. -/
def printedSpec : ChangeSpec := { name := "printed", fn := fun _ => fun
  | [d1, d2, d3] => { results := [.lit (.bool true)], args := [d1, d2, d3] }
  | _ => none }
def printedRow : OpenClaim := { program := "ytikffmloeifkpaagreatdoor", sum := "33f6eaa44211feae3f2435962c3d591a106ddf4a6bb067fb5b133e304eefe727", func := "surefoot/surefootkeep.Printed", spec := "printed", inPlace := ["internal/abi.NoEscape"], unfollowed := true, recurses := true, named := ["surefoot/words.spellings", "internal/strconv.uint64pow10", "math/bits.deBruijn32tab", "math/bits.deBruijn64tab"], apart := false, laid := [("math/bits.deBruijn32tab", laid_math_bits_deBruijn32tab), ("math/bits.deBruijn64tab", laid_math_bits_deBruijn64tab), ("internal/strconv.uint64pow10", laid_internal_strconv_uint64pow10), ("surefoot/words.spellings", laid_surefoot_words_spellings)] }
def PrintedSaid : Prop := printedRow.holds Tryz.pinned (OpenSpec.ofChange printedSpec)

/-- ITS FALSE NEIGHBOUR: 'it returns false'. Refute it at one input. -/
def printedWrong : ChangeSpec := { name := "printed", fn := fun _ => fun
  | [d1, d2, d3] => { results := [.lit (.bool false)], args := [d1, d2, d3] }
  | _ => none }
def PrintedWrongFalsely : Prop := printedRow.holds Tryz.pinned (OpenSpec.ofChange printedWrong)

/-- 'surefootlaw.Codes': WHATEVER THE INPUT: true; the input reads as it did. -/
def codesSpec : ChangeSpec := { name := "codes", fn := fun _ => fun
  | [d1, d2, d3] => { results := [.lit (.bool true)], args := [d1, d2, d3] }
  | _ => none }
def codesRow : OpenClaim := { program := "ytikffmloeifkpaagreatdoor", sum := "33f6eaa44211feae3f2435962c3d591a106ddf4a6bb067fb5b133e304eefe727", func := "surefoot/surefootlaw.Codes", spec := "codes", inPlace := ["internal/abi.NoEscape"], unfollowed := true, recurses := true, named := ["surefoot/words.spellings"], apart := false, laid := [("surefoot/words.spellings", laid_surefoot_words_spellings)] }
def CodesSaid : Prop := codesRow.holds Tryz.pinned (OpenSpec.ofChange codesSpec)

/-- ITS FALSE NEIGHBOUR: 'it returns false'. Refute it at one input. -/
def codesWrong : ChangeSpec := { name := "codes", fn := fun _ => fun
  | [d1, d2, d3] => { results := [.lit (.bool false)], args := [d1, d2, d3] }
  | _ => none }
def CodesWrongFalsely : Prop := codesRow.holds Tryz.pinned (OpenSpec.ofChange codesWrong)

/-- 'surefootkeep.Coded': WHATEVER THE INPUT: true; the input reads as it did. -/
def codedSpec : ChangeSpec := { name := "coded", fn := fun _ => fun
  | [d1, d2, d3] => { results := [.lit (.bool true)], args := [d1, d2, d3] }
  | _ => none }
def codedRow : OpenClaim := { program := "ytikffmloeifkpaagreatdoor", sum := "33f6eaa44211feae3f2435962c3d591a106ddf4a6bb067fb5b133e304eefe727", func := "surefoot/surefootkeep.Coded", spec := "coded", inPlace := ["internal/abi.NoEscape"], unfollowed := true, recurses := true, named := ["surefoot/words.spellings"], apart := false, laid := [("surefoot/words.spellings", laid_surefoot_words_spellings)] }
def CodedSaid : Prop := codedRow.holds Tryz.pinned (OpenSpec.ofChange codedSpec)

/-- ITS FALSE NEIGHBOUR: 'it returns false'. Refute it at one input. -/
def codedWrong : ChangeSpec := { name := "coded", fn := fun _ => fun
  | [d1, d2, d3] => { results := [.lit (.bool false)], args := [d1, d2, d3] }
  | _ => none }
def CodedWrongFalsely : Prop := codedRow.holds Tryz.pinned (OpenSpec.ofChange codedWrong)

/-- 'surefootkeep.Loaded': WHATEVER THE INPUT: true; the input reads as it did. -/
def loadedSpec : ChangeSpec := { name := "loaded", fn := fun _ => fun
  | [d1, d2, d3, d4, d5, d6] => { results := [.lit (.bool true)], args := [d1, d2, d3, d4, d5, d6] }
  | _ => none }
def loadedRow : OpenClaim := { program := "ytikffmloeifkpaagreatdoor", sum := "33f6eaa44211feae3f2435962c3d591a106ddf4a6bb067fb5b133e304eefe727", func := "surefoot/surefootkeep.Loaded", spec := "loaded", inPlace := ["internal/abi.NoEscape"], unfollowed := true, recurses := true, named := ["surefoot/words.spellings"], apart := false, laid := [("surefoot/words.spellings", laid_surefoot_words_spellings)] }
def LoadedSaid : Prop := loadedRow.holds Tryz.pinned (OpenSpec.ofChange loadedSpec)

/-- ITS FALSE NEIGHBOUR: 'it returns false'. Refute it at one input. -/
def loadedWrong : ChangeSpec := { name := "loaded", fn := fun _ => fun
  | [d1, d2, d3, d4, d5, d6] => { results := [.lit (.bool false)], args := [d1, d2, d3, d4, d5, d6] }
  | _ => none }
def LoadedWrongFalsely : Prop := loadedRow.holds Tryz.pinned (OpenSpec.ofChange loadedWrong)

/- THE SECOND FORM. 'bulk': how many values and letters a reading holds, each counted each time it is reached (what is shared counts as often as it is met; a slice's spare places count too). A statement '..UptoSaid' is the law's where the arguments, and the package variables that the reading takes, are together of bulk at most 1048576: NARROWER than '..Said'. Prove '..Said' where nothing that the law and all that it calls make is longer than what came in: it says more and counts as full. Else prove '..UptoSaid'. A law counts once. -/
mutual
def uptoBulk {H : Type} : DataW H → Nat
  | .lit (.string bytes) => bytes.length + 1
  | .lit _ => 1
  | .nil => 1
  | .ptr d => uptoBulk d + 1
  | .slice elems spare => uptoBulkAll elems + uptoBulkAll spare + 1
  | .agg parts => uptoBulkAll parts + 1
  | .iface _ d => uptoBulk d + 1
  | .map entries => uptoBulkEntries entries + 1
  | .held _ => 1
def uptoBulkAll {H : Type} : List (DataW H) → Nat
  | [] => 0
  | d :: r => uptoBulk d + uptoBulkAll r
def uptoBulkEntries {H : Type} : List (Lit × DataW H) → Nat
  | [] => 0
  | x :: r => uptoBulkEntry x + uptoBulkEntries r
def uptoBulkEntry {H : Type} : Lit × DataW H → Nat
  | (.string bytes, d) => bytes.length + uptoBulk d + 1
  | (_, d) => uptoBulk d + 1
 end
def uptoSmall : (H : Type) → List (DataW H) → Bool := fun _ ds => decide (uptoBulkAll ds ≤ 1048576)
def OpenSpec.upto (s : _root_.Go.ChangeSpec) : _root_.Go.OpenSpec := { _root_.Go.OpenSpec.ofChange s with cond := some uptoSmall }

/-- 'surefootlaw.Reads', WHERE WHAT IT READS IS OF BULK AT MOST 1048576: true; the input reads as it did. -/
def readsUptoRow : OpenClaim := { program := "ytikffmloeifkpaagreatdoor", sum := "33f6eaa44211feae3f2435962c3d591a106ddf4a6bb067fb5b133e304eefe727", func := "surefoot/surefootlaw.Reads", spec := "reads", unfollowed := true, recurses := true, named := ["surefoot/words.spellings"], apart := false, laid := [("surefoot/words.spellings", laid_surefoot_words_spellings)], narrowed := true }
def ReadsUptoSaid : Prop := readsUptoRow.holds Tryz.pinned (OpenSpec.upto readsSpec)

/-- 'surefootlaw.Walks', WHERE WHAT IT READS IS OF BULK AT MOST 1048576: true; the input reads as it did. -/
def walksUptoRow : OpenClaim := { program := "ytikffmloeifkpaagreatdoor", sum := "33f6eaa44211feae3f2435962c3d591a106ddf4a6bb067fb5b133e304eefe727", func := "surefoot/surefootlaw.Walks", spec := "walks", unfollowed := true, recurses := true, named := ["surefoot/words.spellings"], apart := false, laid := [("surefoot/words.spellings", laid_surefoot_words_spellings)], narrowed := true }
def WalksUptoSaid : Prop := walksUptoRow.holds Tryz.pinned (OpenSpec.upto walksSpec)

/-- 'surefootkeep.Less', WHERE WHAT IT READS IS OF BULK AT MOST 1048576: true; the input reads as it did. -/
def lessUptoRow : OpenClaim := { program := "ytikffmloeifkpaagreatdoor", sum := "33f6eaa44211feae3f2435962c3d591a106ddf4a6bb067fb5b133e304eefe727", func := "surefoot/surefootkeep.Less", spec := "less", unfollowed := true, recurses := true, named := ["surefoot/words.spellings"], apart := false, laid := [("surefoot/words.spellings", laid_surefoot_words_spellings)], narrowed := true }
def LessUptoSaid : Prop := lessUptoRow.holds Tryz.pinned (OpenSpec.upto lessSpec)

/-- 'surefootkeep.Reckoned', WHERE WHAT IT READS IS OF BULK AT MOST 1048576: true; the input reads as it did. -/
def reckonedUptoRow : OpenClaim := { program := "ytikffmloeifkpaagreatdoor", sum := "33f6eaa44211feae3f2435962c3d591a106ddf4a6bb067fb5b133e304eefe727", func := "surefoot/surefootkeep.Reckoned", spec := "reckoned", unfollowed := true, recurses := true, named := ["surefoot/words.spellings"], apart := false, laid := [("surefoot/words.spellings", laid_surefoot_words_spellings)], narrowed := true }
def ReckonedUptoSaid : Prop := reckonedUptoRow.holds Tryz.pinned (OpenSpec.upto reckonedSpec)

/-- 'surefootlaw.Sites', WHERE WHAT IT READS IS OF BULK AT MOST 1048576: true; the input reads as it did. -/
def sitesUptoRow : OpenClaim := { program := "ytikffmloeifkpaagreatdoor", sum := "33f6eaa44211feae3f2435962c3d591a106ddf4a6bb067fb5b133e304eefe727", func := "surefoot/surefootlaw.Sites", spec := "sites", unfollowed := true, recurses := true, named := ["surefoot/words.spellings"], apart := false, laid := [("surefoot/words.spellings", laid_surefoot_words_spellings)], narrowed := true }
def SitesUptoSaid : Prop := sitesUptoRow.holds Tryz.pinned (OpenSpec.upto sitesSpec)

/-- 'surefootkeep.Careful', WHERE WHAT IT READS IS OF BULK AT MOST 1048576: true; the input reads as it did. -/
def carefulUptoRow : OpenClaim := { program := "ytikffmloeifkpaagreatdoor", sum := "33f6eaa44211feae3f2435962c3d591a106ddf4a6bb067fb5b133e304eefe727", func := "surefoot/surefootkeep.Careful", spec := "careful", unfollowed := true, recurses := true, named := ["surefoot/words.spellings"], apart := false, laid := [("surefoot/words.spellings", laid_surefoot_words_spellings)], narrowed := true }
def CarefulUptoSaid : Prop := carefulUptoRow.holds Tryz.pinned (OpenSpec.upto carefulSpec)

/-- 'surefootkeep.Plain', WHERE WHAT IT READS IS OF BULK AT MOST 1048576: true; the input reads as it did. -/
def plainUptoRow : OpenClaim := { program := "ytikffmloeifkpaagreatdoor", sum := "33f6eaa44211feae3f2435962c3d591a106ddf4a6bb067fb5b133e304eefe727", func := "surefoot/surefootkeep.Plain", spec := "plain", unfollowed := true, recurses := true, named := ["surefoot/words.spellings"], apart := false, laid := [("surefoot/words.spellings", laid_surefoot_words_spellings)], narrowed := true }
def PlainUptoSaid : Prop := plainUptoRow.holds Tryz.pinned (OpenSpec.upto plainSpec)

/-- 'surefootkeep.Printed', WHERE WHAT IT READS IS OF BULK AT MOST 1048576: true; the input reads as it did. -/
def printedUptoRow : OpenClaim := { program := "ytikffmloeifkpaagreatdoor", sum := "33f6eaa44211feae3f2435962c3d591a106ddf4a6bb067fb5b133e304eefe727", func := "surefoot/surefootkeep.Printed", spec := "printed", inPlace := ["internal/abi.NoEscape"], unfollowed := true, recurses := true, named := ["surefoot/words.spellings", "internal/strconv.uint64pow10", "math/bits.deBruijn32tab", "math/bits.deBruijn64tab"], apart := false, laid := [("math/bits.deBruijn32tab", laid_math_bits_deBruijn32tab), ("math/bits.deBruijn64tab", laid_math_bits_deBruijn64tab), ("internal/strconv.uint64pow10", laid_internal_strconv_uint64pow10), ("surefoot/words.spellings", laid_surefoot_words_spellings)], narrowed := true }
def PrintedUptoSaid : Prop := printedUptoRow.holds Tryz.pinned (OpenSpec.upto printedSpec)

/-- 'surefootlaw.Codes', WHERE WHAT IT READS IS OF BULK AT MOST 1048576: true; the input reads as it did. -/
def codesUptoRow : OpenClaim := { program := "ytikffmloeifkpaagreatdoor", sum := "33f6eaa44211feae3f2435962c3d591a106ddf4a6bb067fb5b133e304eefe727", func := "surefoot/surefootlaw.Codes", spec := "codes", inPlace := ["internal/abi.NoEscape"], unfollowed := true, recurses := true, named := ["surefoot/words.spellings"], apart := false, laid := [("surefoot/words.spellings", laid_surefoot_words_spellings)], narrowed := true }
def CodesUptoSaid : Prop := codesUptoRow.holds Tryz.pinned (OpenSpec.upto codesSpec)

/-- 'surefootkeep.Coded', WHERE WHAT IT READS IS OF BULK AT MOST 1048576: true; the input reads as it did. -/
def codedUptoRow : OpenClaim := { program := "ytikffmloeifkpaagreatdoor", sum := "33f6eaa44211feae3f2435962c3d591a106ddf4a6bb067fb5b133e304eefe727", func := "surefoot/surefootkeep.Coded", spec := "coded", inPlace := ["internal/abi.NoEscape"], unfollowed := true, recurses := true, named := ["surefoot/words.spellings"], apart := false, laid := [("surefoot/words.spellings", laid_surefoot_words_spellings)], narrowed := true }
def CodedUptoSaid : Prop := codedUptoRow.holds Tryz.pinned (OpenSpec.upto codedSpec)

/-- 'surefootkeep.Loaded', WHERE WHAT IT READS IS OF BULK AT MOST 1048576: true; the input reads as it did. -/
def loadedUptoRow : OpenClaim := { program := "ytikffmloeifkpaagreatdoor", sum := "33f6eaa44211feae3f2435962c3d591a106ddf4a6bb067fb5b133e304eefe727", func := "surefoot/surefootkeep.Loaded", spec := "loaded", inPlace := ["internal/abi.NoEscape"], unfollowed := true, recurses := true, named := ["surefoot/words.spellings"], apart := false, laid := [("surefoot/words.spellings", laid_surefoot_words_spellings)], narrowed := true }
def LoadedUptoSaid : Prop := loadedUptoRow.holds Tryz.pinned (OpenSpec.upto loadedSpec)

end Rows
end Go.Proofs.YtikffmloeifkpaaGreatDoor
