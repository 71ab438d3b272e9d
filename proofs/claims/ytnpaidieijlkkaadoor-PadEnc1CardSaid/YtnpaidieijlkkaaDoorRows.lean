/-
  NARROWER THAN 'FOR EVERY INPUT', by the rows' own cells (each row's printed sentence says how): DrbgIter: laid · PadInfo: laid · PadEnc1: laid · PadDec1: laid · PadOAEP: laid · PadPSS: laid.
  DERIVED. THE GIVEN ROWS OF THIS SEAT. 6 by the template 'for every input the law returns true; each argument reads behind the call as it read before'; 0 by the template 'total and deterministic' (their statements: YtnpaidieijlkkaaDoorTotals.lean).
  GIVEN WITH THE SEED: the statements are not yours to turn. If you find one false, say at which input.
  Laid BY PROGRAM, IN A SANDBOX (cutbox-rows.mjs): the forced cells as the released guide's own fill.sh prints them over the translation 43197fdc782a04f1… (all of the seat's roots in one cut). By AI agents, Wed Nov 11 2026. No macro, syntax, notation, axiom, sorry.
-/
import Derived.Test.YtnpaidieijlkkaaDoorChecked
import GoSem.PinnedTables
import GoSem.Claim
import GoSem.ClaimJoined
import GoSem.ClaimMapViews
import Derived.JoinedTies
import Derived.KernelRfl
namespace Go.Proofs.YtnpaidieijlkkaaDoor
/- THE CELL 'sum', in the pinned program and in every row, IS THE sha256 OF THE DUMP (.gsa) THAT YtnpaidieijlkkaaDoorProg.lean LOADS. Nothing in Lean hashes anything: it is a label: what it is worth is what the hold of that sum in a sandbox is worth. -/
noncomputable def Tryd.pinned : Pinned := { name := "ytnpaidieijlkkaadoor", sum := "43197fdc782a04f1737796164a1bd17d9e82be1200d020cc9592e6a85c44ef9d", checked := Tryd.checked }
namespace Rows
def none {H : Type} : Left H := { results := [], args := [] }

/- WHAT THE LISTED PACKAGE-LEVEL VARIABLES READ AS WHEN THE CALL BEGINS. Each datum BY PROGRAM (the guide's laid-datum.mjs) off the statement by which the dump's own 'gosem.cut.vars' lays the variable. In a bare row this is a premise. The card (YtnpaidieijlkkaaDoorCards.lean) ties it to the program's text. -/
def laid_bailey_hashes_starts {H : Type} : DataW H := .agg [.agg [.lit (.int .u64 0), .lit (.int .u64 0), .lit (.int .u64 0), .lit (.int .u64 0), .lit (.int .u64 0), .lit (.int .u64 0), .lit (.int .u64 0), .lit (.int .u64 0)], .agg [.lit (.int .u64 1732584193), .lit (.int .u64 4023233417), .lit (.int .u64 2562383102), .lit (.int .u64 271733878), .lit (.int .u64 3285377520), .lit (.int .u64 0), .lit (.int .u64 0), .lit (.int .u64 0)], .agg [.lit (.int .u64 3238371032), .lit (.int .u64 914150663), .lit (.int .u64 812702999), .lit (.int .u64 4144912697), .lit (.int .u64 4290775857), .lit (.int .u64 1750603025), .lit (.int .u64 1694076839), .lit (.int .u64 3204075428)], .agg [.lit (.int .u64 1779033703), .lit (.int .u64 3144134277), .lit (.int .u64 1013904242), .lit (.int .u64 2773480762), .lit (.int .u64 1359893119), .lit (.int .u64 2600822924), .lit (.int .u64 528734635), .lit (.int .u64 1541459225)], .agg [.lit (.int .u64 14680500436340154072), .lit (.int .u64 7105036623409894663), .lit (.int .u64 10473403895298186519), .lit (.int .u64 1526699215303891257), .lit (.int .u64 7436329637833083697), .lit (.int .u64 10282925794625328401), .lit (.int .u64 15784041429090275239), .lit (.int .u64 5167115440072839076)], .agg [.lit (.int .u64 7640891576956012808), .lit (.int .u64 13503953896175478587), .lit (.int .u64 4354685564936845355), .lit (.int .u64 11912009170470909681), .lit (.int .u64 5840696475078001361), .lit (.int .u64 11170449401992604703), .lit (.int .u64 2270897969802886507), .lit (.int .u64 6620516959819538809)]]
def laid_bailey_hashes_roots {H : Type} : DataW H := .agg [.lit (.int .u64 4794697086780616226), .lit (.int .u64 8158064640168781261), .lit (.int .u64 13096744586834688815), .lit (.int .u64 16840607885511220156), .lit (.int .u64 4131703408338449720), .lit (.int .u64 6480981068601479193), .lit (.int .u64 10538285296894168987), .lit (.int .u64 12329834152419229976), .lit (.int .u64 15566598209576043074), .lit (.int .u64 1334009975649890238), .lit (.int .u64 2608012711638119052), .lit (.int .u64 6128411473006802146), .lit (.int .u64 8268148722764581231), .lit (.int .u64 9286055187155687089), .lit (.int .u64 11230858885718282805), .lit (.int .u64 13951009754708518548), .lit (.int .u64 16472876342353939154), .lit (.int .u64 17275323862435702243), .lit (.int .u64 1135362057144423861), .lit (.int .u64 2597628984639134821), .lit (.int .u64 3308224258029322869), .lit (.int .u64 5365058923640841347), .lit (.int .u64 6679025012923562964), .lit (.int .u64 8573033837759648693), .lit (.int .u64 10970295158949994411), .lit (.int .u64 12119686244451234320), .lit (.int .u64 12683024718118986047), .lit (.int .u64 13788192230050041572), .lit (.int .u64 14330467153632333762), .lit (.int .u64 15395433587784984357), .lit (.int .u64 489312712824947311), .lit (.int .u64 1452737877330783856), .lit (.int .u64 2861767655752347644), .lit (.int .u64 3322285676063803686), .lit (.int .u64 5560940570517711597), .lit (.int .u64 5996557281743188959), .lit (.int .u64 7280758554555802590), .lit (.int .u64 8532644243296465576), .lit (.int .u64 9350256976987008742), .lit (.int .u64 10552545826968843579), .lit (.int .u64 11727347734174303076), .lit (.int .u64 12113106623233404929), .lit (.int .u64 14000437183269869457), .lit (.int .u64 14369950271660146224), .lit (.int .u64 15101387698204529176), .lit (.int .u64 15463397548674623760), .lit (.int .u64 17586052441742319658), .lit (.int .u64 1182934255886127544), .lit (.int .u64 1847814050463011016), .lit (.int .u64 2177327727835720531), .lit (.int .u64 2830643537854262169), .lit (.int .u64 3796741975233480872), .lit (.int .u64 4115178125766777443), .lit (.int .u64 5681478168544905931), .lit (.int .u64 6601373596472566643), .lit (.int .u64 7507060721942968483), .lit (.int .u64 8399075790359081724), .lit (.int .u64 8693463985226723168), .lit (.int .u64 9568029438360202098), .lit (.int .u64 10144078919501101548), .lit (.int .u64 10430055236837252648), .lit (.int .u64 11840083180663258601), .lit (.int .u64 13761210420658862357), .lit (.int .u64 14299343276471374635), .lit (.int .u64 14566680578165727644), .lit (.int .u64 15097957966210449927), .lit (.int .u64 16922976911328602910), .lit (.int .u64 17689382322260857208), .lit (.int .u64 500013540394364858), .lit (.int .u64 748580250866718886), .lit (.int .u64 1242879168328830382), .lit (.int .u64 1977374033974150939), .lit (.int .u64 2944078676154940804), .lit (.int .u64 3659926193048069267), .lit (.int .u64 4368137639120453308), .lit (.int .u64 4836135668995329356), .lit (.int .u64 5532061633213252278), .lit (.int .u64 6448918945643986474), .lit (.int .u64 6902733635092675308), .lit (.int .u64 7801388544844847127)]
def laid_unicode_utf8_acceptRanges {H : Type} : DataW H := .agg [.agg [.lit (.int .u8 128), .lit (.int .u8 191)], .agg [.lit (.int .u8 160), .lit (.int .u8 191)], .agg [.lit (.int .u8 128), .lit (.int .u8 159)], .agg [.lit (.int .u8 144), .lit (.int .u8 191)], .agg [.lit (.int .u8 128), .lit (.int .u8 143)], .agg [.lit (.int .u8 0), .lit (.int .u8 0)], .agg [.lit (.int .u8 0), .lit (.int .u8 0)], .agg [.lit (.int .u8 0), .lit (.int .u8 0)], .agg [.lit (.int .u8 0), .lit (.int .u8 0)], .agg [.lit (.int .u8 0), .lit (.int .u8 0)], .agg [.lit (.int .u8 0), .lit (.int .u8 0)], .agg [.lit (.int .u8 0), .lit (.int .u8 0)], .agg [.lit (.int .u8 0), .lit (.int .u8 0)], .agg [.lit (.int .u8 0), .lit (.int .u8 0)], .agg [.lit (.int .u8 0), .lit (.int .u8 0)], .agg [.lit (.int .u8 0), .lit (.int .u8 0)]]
/-- One of Go's own tables, pinned by name: the form's constant. -/
def laid_unicode_utf8_first : DataW Unit := Go.Pinned.utf8First

/-- 'baileylaw4.DrbgIter': WHATEVER THE INPUT: true; the input reads as it did. -/
def drbgIterSpec : ChangeSpec := { name := "drbgIter", fn := fun _ => fun
  | [d1, d2] => { results := [.lit (.bool true)], args := [d1, d2] }
  | _ => none }
def drbgIterRow : OpenClaim := { program := "ytnpaidieijlkkaadoor", sum := "43197fdc782a04f1737796164a1bd17d9e82be1200d020cc9592e6a85c44ef9d", func := "bailey/baileylaw4.DrbgIter", spec := "drbgIter", inPlace := ["math/bits.Add64", "math/bits.Sub64"], unfollowed := true, recurses := true, named := ["bailey/hashes.starts", "bailey/hashes.roots", "math/bits.divideError", "math/bits.overflowError"], apart := false, laid := [("bailey/hashes.starts", laid_bailey_hashes_starts), ("bailey/hashes.roots", laid_bailey_hashes_roots)] }
def DrbgIterSaid : Prop := drbgIterRow.holds Tryd.pinned (OpenSpec.ofChange drbgIterSpec)

/-- ITS FALSE NEIGHBOUR: 'it returns false'. Refute it at one input. -/
def drbgIterWrong : ChangeSpec := { name := "drbgIter", fn := fun _ => fun
  | [d1, d2] => { results := [.lit (.bool false)], args := [d1, d2] }
  | _ => none }
def DrbgIterWrongFalsely : Prop := drbgIterRow.holds Tryd.pinned (OpenSpec.ofChange drbgIterWrong)

/-- 'baileylaw8.PadInfo': WHATEVER THE INPUT: true; the input reads as it did. -/
def padInfoSpec : ChangeSpec := { name := "padInfo", fn := fun _ => fun
  | [d1, d2, d3] => { results := [.lit (.bool true)], args := [d1, d2, d3] }
  | _ => none }
def padInfoRow : OpenClaim := { program := "ytnpaidieijlkkaadoor", sum := "43197fdc782a04f1737796164a1bd17d9e82be1200d020cc9592e6a85c44ef9d", func := "bailey/baileylaw8.PadInfo", spec := "padInfo", unfollowed := true, recurses := true, named := ["bailey/hashes.starts", "bailey/hashes.roots", "unicode/utf8.first", "unicode/utf8.acceptRanges"], apart := false, laid := [("unicode/utf8.acceptRanges", laid_unicode_utf8_acceptRanges), ("bailey/hashes.starts", laid_bailey_hashes_starts), ("bailey/hashes.roots", laid_bailey_hashes_roots), ("unicode/utf8.first", laid_unicode_utf8_first)] }
def PadInfoSaid : Prop := padInfoRow.holds Tryd.pinned (OpenSpec.ofChange padInfoSpec)

/-- ITS FALSE NEIGHBOUR: 'it returns false'. Refute it at one input. -/
def padInfoWrong : ChangeSpec := { name := "padInfo", fn := fun _ => fun
  | [d1, d2, d3] => { results := [.lit (.bool false)], args := [d1, d2, d3] }
  | _ => none }
def PadInfoWrongFalsely : Prop := padInfoRow.holds Tryd.pinned (OpenSpec.ofChange padInfoWrong)

/-- 'baileylaw8.PadEnc1': WHATEVER THE INPUT: true; the input reads as it did. -/
def padEnc1Spec : ChangeSpec := { name := "padEnc1", fn := fun _ => fun
  | [d1, d2, d3] => { results := [.lit (.bool true)], args := [d1, d2, d3] }
  | _ => none }
def padEnc1Row : OpenClaim := { program := "ytnpaidieijlkkaadoor", sum := "43197fdc782a04f1737796164a1bd17d9e82be1200d020cc9592e6a85c44ef9d", func := "bailey/baileylaw8.PadEnc1", spec := "padEnc1", inPlace := ["internal/bytealg.IndexByte"], unfollowed := true, recurses := true, named := ["bailey/hashes.starts", "bailey/hashes.roots", "unicode/utf8.first", "unicode/utf8.acceptRanges"], apart := false, laid := [("unicode/utf8.acceptRanges", laid_unicode_utf8_acceptRanges), ("bailey/hashes.starts", laid_bailey_hashes_starts), ("bailey/hashes.roots", laid_bailey_hashes_roots), ("unicode/utf8.first", laid_unicode_utf8_first)] }
def PadEnc1Said : Prop := padEnc1Row.holds Tryd.pinned (OpenSpec.ofChange padEnc1Spec)

/-- ITS FALSE NEIGHBOUR: 'it returns false'. Refute it at one input. -/
def padEnc1Wrong : ChangeSpec := { name := "padEnc1", fn := fun _ => fun
  | [d1, d2, d3] => { results := [.lit (.bool false)], args := [d1, d2, d3] }
  | _ => none }
def PadEnc1WrongFalsely : Prop := padEnc1Row.holds Tryd.pinned (OpenSpec.ofChange padEnc1Wrong)

/-- 'baileylaw8.PadDec1': WHATEVER THE INPUT: true; the input reads as it did. -/
def padDec1Spec : ChangeSpec := { name := "padDec1", fn := fun _ => fun
  | [d] => { results := [.lit (.bool true)], args := [d] }
  | _ => none }
def padDec1Row : OpenClaim := { program := "ytnpaidieijlkkaadoor", sum := "43197fdc782a04f1737796164a1bd17d9e82be1200d020cc9592e6a85c44ef9d", func := "bailey/baileylaw8.PadDec1", spec := "padDec1", inPlace := ["internal/bytealg.IndexByte"], unfollowed := true, recurses := true, named := ["bailey/hashes.starts", "bailey/hashes.roots", "unicode/utf8.first", "unicode/utf8.acceptRanges"], apart := false, laid := [("unicode/utf8.acceptRanges", laid_unicode_utf8_acceptRanges), ("bailey/hashes.starts", laid_bailey_hashes_starts), ("bailey/hashes.roots", laid_bailey_hashes_roots), ("unicode/utf8.first", laid_unicode_utf8_first)] }
def PadDec1Said : Prop := padDec1Row.holds Tryd.pinned (OpenSpec.ofChange padDec1Spec)

/-- ITS FALSE NEIGHBOUR: 'it returns false'. Refute it at one input. -/
def padDec1Wrong : ChangeSpec := { name := "padDec1", fn := fun _ => fun
  | [d] => { results := [.lit (.bool false)], args := [d] }
  | _ => none }
def PadDec1WrongFalsely : Prop := padDec1Row.holds Tryd.pinned (OpenSpec.ofChange padDec1Wrong)

/-- 'baileylaw8.PadOAEP': WHATEVER THE INPUT: true; the input reads as it did. -/
def padOAEPSpec : ChangeSpec := { name := "padOAEP", fn := fun _ => fun
  | [d1, d2, d3, d4, d5, d6] => { results := [.lit (.bool true)], args := [d1, d2, d3, d4, d5, d6] }
  | _ => none }
def padOAEPRow : OpenClaim := { program := "ytnpaidieijlkkaadoor", sum := "43197fdc782a04f1737796164a1bd17d9e82be1200d020cc9592e6a85c44ef9d", func := "bailey/baileylaw8.PadOAEP", spec := "padOAEP", unfollowed := true, recurses := true, named := ["bailey/hashes.starts", "bailey/hashes.roots", "unicode/utf8.first", "unicode/utf8.acceptRanges"], apart := false, laid := [("unicode/utf8.acceptRanges", laid_unicode_utf8_acceptRanges), ("bailey/hashes.starts", laid_bailey_hashes_starts), ("bailey/hashes.roots", laid_bailey_hashes_roots), ("unicode/utf8.first", laid_unicode_utf8_first)] }
def PadOAEPSaid : Prop := padOAEPRow.holds Tryd.pinned (OpenSpec.ofChange padOAEPSpec)

/-- ITS FALSE NEIGHBOUR: 'it returns false'. Refute it at one input. -/
def padOAEPWrong : ChangeSpec := { name := "padOAEP", fn := fun _ => fun
  | [d1, d2, d3, d4, d5, d6] => { results := [.lit (.bool false)], args := [d1, d2, d3, d4, d5, d6] }
  | _ => none }
def PadOAEPWrongFalsely : Prop := padOAEPRow.holds Tryd.pinned (OpenSpec.ofChange padOAEPWrong)

/-- 'baileylaw8.PadPSS': WHATEVER THE INPUT: true; the input reads as it did. -/
def padPSSSpec : ChangeSpec := { name := "padPSS", fn := fun _ => fun
  | [d1, d2, d3, d4, d5, d6] => { results := [.lit (.bool true)], args := [d1, d2, d3, d4, d5, d6] }
  | _ => none }
def padPSSRow : OpenClaim := { program := "ytnpaidieijlkkaadoor", sum := "43197fdc782a04f1737796164a1bd17d9e82be1200d020cc9592e6a85c44ef9d", func := "bailey/baileylaw8.PadPSS", spec := "padPSS", unfollowed := true, recurses := true, named := ["bailey/hashes.starts", "bailey/hashes.roots", "unicode/utf8.first", "unicode/utf8.acceptRanges"], apart := false, laid := [("unicode/utf8.acceptRanges", laid_unicode_utf8_acceptRanges), ("bailey/hashes.starts", laid_bailey_hashes_starts), ("bailey/hashes.roots", laid_bailey_hashes_roots), ("unicode/utf8.first", laid_unicode_utf8_first)] }
def PadPSSSaid : Prop := padPSSRow.holds Tryd.pinned (OpenSpec.ofChange padPSSSpec)

/-- ITS FALSE NEIGHBOUR: 'it returns false'. Refute it at one input. -/
def padPSSWrong : ChangeSpec := { name := "padPSS", fn := fun _ => fun
  | [d1, d2, d3, d4, d5, d6] => { results := [.lit (.bool false)], args := [d1, d2, d3, d4, d5, d6] }
  | _ => none }
def PadPSSWrongFalsely : Prop := padPSSRow.holds Tryd.pinned (OpenSpec.ofChange padPSSWrong)

/- THE SECOND FORM. 'bulk': how many values and letters a reading holds, each counted each time it is reached (what is shared counts as often as it is met; a slice's spare places count too). A statement '..UptoSaid' is the law's where the arguments, and the package variables that the reading takes, are together of bulk at most 1048576: NARROWER than '..Said'. Prove '..Said' where nothing that the law and all that it calls make is longer than what came in: it says more and counts as full. Else prove '..UptoSaid'. A law counts once. -/
mutual
def uptoBulk {H : Type} : DataW H → Nat
  | .lit (.string bytes) => bytes.length + 1
  | .lit _ => 1
  | .nil => 1
  | .ptr d => uptoBulk d + 1
  | .slice elems spare => uptoBulkAll elems + uptoBulkAll spare + 1
  | .agg parts => uptoBulkAll parts + 1
  | .iface _ d => uptoBulk d + 1
  | .map entries => uptoBulkEntries entries + 1
  | .held _ => 1
def uptoBulkAll {H : Type} : List (DataW H) → Nat
  | [] => 0
  | d :: r => uptoBulk d + uptoBulkAll r
def uptoBulkEntries {H : Type} : List (Lit × DataW H) → Nat
  | [] => 0
  | x :: r => uptoBulkEntry x + uptoBulkEntries r
def uptoBulkEntry {H : Type} : Lit × DataW H → Nat
  | (.string bytes, d) => bytes.length + uptoBulk d + 1
  | (_, d) => uptoBulk d + 1
 end
def uptoSmall : (H : Type) → List (DataW H) → Bool := fun _ ds => decide (uptoBulkAll ds ≤ 1048576)
def OpenSpec.upto (s : _root_.Go.ChangeSpec) : _root_.Go.OpenSpec := { _root_.Go.OpenSpec.ofChange s with cond := some uptoSmall }

/-- 'baileylaw4.DrbgIter', WHERE WHAT IT READS IS OF BULK AT MOST 1048576: true; the input reads as it did. -/
def drbgIterUptoRow : OpenClaim := { program := "ytnpaidieijlkkaadoor", sum := "43197fdc782a04f1737796164a1bd17d9e82be1200d020cc9592e6a85c44ef9d", func := "bailey/baileylaw4.DrbgIter", spec := "drbgIter", inPlace := ["math/bits.Add64", "math/bits.Sub64"], unfollowed := true, recurses := true, named := ["bailey/hashes.starts", "bailey/hashes.roots", "math/bits.divideError", "math/bits.overflowError"], apart := false, laid := [("bailey/hashes.starts", laid_bailey_hashes_starts), ("bailey/hashes.roots", laid_bailey_hashes_roots)], narrowed := true }
def DrbgIterUptoSaid : Prop := drbgIterUptoRow.holds Tryd.pinned (OpenSpec.upto drbgIterSpec)

/-- 'baileylaw8.PadInfo', WHERE WHAT IT READS IS OF BULK AT MOST 1048576: true; the input reads as it did. -/
def padInfoUptoRow : OpenClaim := { program := "ytnpaidieijlkkaadoor", sum := "43197fdc782a04f1737796164a1bd17d9e82be1200d020cc9592e6a85c44ef9d", func := "bailey/baileylaw8.PadInfo", spec := "padInfo", unfollowed := true, recurses := true, named := ["bailey/hashes.starts", "bailey/hashes.roots", "unicode/utf8.first", "unicode/utf8.acceptRanges"], apart := false, laid := [("unicode/utf8.acceptRanges", laid_unicode_utf8_acceptRanges), ("bailey/hashes.starts", laid_bailey_hashes_starts), ("bailey/hashes.roots", laid_bailey_hashes_roots), ("unicode/utf8.first", laid_unicode_utf8_first)], narrowed := true }
def PadInfoUptoSaid : Prop := padInfoUptoRow.holds Tryd.pinned (OpenSpec.upto padInfoSpec)

/-- 'baileylaw8.PadEnc1', WHERE WHAT IT READS IS OF BULK AT MOST 1048576: true; the input reads as it did. -/
def padEnc1UptoRow : OpenClaim := { program := "ytnpaidieijlkkaadoor", sum := "43197fdc782a04f1737796164a1bd17d9e82be1200d020cc9592e6a85c44ef9d", func := "bailey/baileylaw8.PadEnc1", spec := "padEnc1", inPlace := ["internal/bytealg.IndexByte"], unfollowed := true, recurses := true, named := ["bailey/hashes.starts", "bailey/hashes.roots", "unicode/utf8.first", "unicode/utf8.acceptRanges"], apart := false, laid := [("unicode/utf8.acceptRanges", laid_unicode_utf8_acceptRanges), ("bailey/hashes.starts", laid_bailey_hashes_starts), ("bailey/hashes.roots", laid_bailey_hashes_roots), ("unicode/utf8.first", laid_unicode_utf8_first)], narrowed := true }
def PadEnc1UptoSaid : Prop := padEnc1UptoRow.holds Tryd.pinned (OpenSpec.upto padEnc1Spec)

/-- 'baileylaw8.PadDec1', WHERE WHAT IT READS IS OF BULK AT MOST 1048576: true; the input reads as it did. -/
def padDec1UptoRow : OpenClaim := { program := "ytnpaidieijlkkaadoor", sum := "43197fdc782a04f1737796164a1bd17d9e82be1200d020cc9592e6a85c44ef9d", func := "bailey/baileylaw8.PadDec1", spec := "padDec1", inPlace := ["internal/bytealg.IndexByte"], unfollowed := true, recurses := true, named := ["bailey/hashes.starts", "bailey/hashes.roots", "unicode/utf8.first", "unicode/utf8.acceptRanges"], apart := false, laid := [("unicode/utf8.acceptRanges", laid_unicode_utf8_acceptRanges), ("bailey/hashes.starts", laid_bailey_hashes_starts), ("bailey/hashes.roots", laid_bailey_hashes_roots), ("unicode/utf8.first", laid_unicode_utf8_first)], narrowed := true }
def PadDec1UptoSaid : Prop := padDec1UptoRow.holds Tryd.pinned (OpenSpec.upto padDec1Spec)

/-- 'baileylaw8.PadOAEP', WHERE WHAT IT READS IS OF BULK AT MOST 1048576: true; the input reads as it did. -/
def padOAEPUptoRow : OpenClaim := { program := "ytnpaidieijlkkaadoor", sum := "43197fdc782a04f1737796164a1bd17d9e82be1200d020cc9592e6a85c44ef9d", func := "bailey/baileylaw8.PadOAEP", spec := "padOAEP", unfollowed := true, recurses := true, named := ["bailey/hashes.starts", "bailey/hashes.roots", "unicode/utf8.first", "unicode/utf8.acceptRanges"], apart := false, laid := [("unicode/utf8.acceptRanges", laid_unicode_utf8_acceptRanges), ("bailey/hashes.starts", laid_bailey_hashes_starts), ("bailey/hashes.roots", laid_bailey_hashes_roots), ("unicode/utf8.first", laid_unicode_utf8_first)], narrowed := true }
def PadOAEPUptoSaid : Prop := padOAEPUptoRow.holds Tryd.pinned (OpenSpec.upto padOAEPSpec)

/-- 'baileylaw8.PadPSS', WHERE WHAT IT READS IS OF BULK AT MOST 1048576: true; the input reads as it did. -/
def padPSSUptoRow : OpenClaim := { program := "ytnpaidieijlkkaadoor", sum := "43197fdc782a04f1737796164a1bd17d9e82be1200d020cc9592e6a85c44ef9d", func := "bailey/baileylaw8.PadPSS", spec := "padPSS", unfollowed := true, recurses := true, named := ["bailey/hashes.starts", "bailey/hashes.roots", "unicode/utf8.first", "unicode/utf8.acceptRanges"], apart := false, laid := [("unicode/utf8.acceptRanges", laid_unicode_utf8_acceptRanges), ("bailey/hashes.starts", laid_bailey_hashes_starts), ("bailey/hashes.roots", laid_bailey_hashes_roots), ("unicode/utf8.first", laid_unicode_utf8_first)], narrowed := true }
def PadPSSUptoSaid : Prop := padPSSUptoRow.holds Tryd.pinned (OpenSpec.upto padPSSSpec)

end Rows
end Go.Proofs.YtnpaidieijlkkaaDoor
