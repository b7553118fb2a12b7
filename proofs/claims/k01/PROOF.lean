import PyProof.Rows.All
import Wide.All
import OpenK.AllK
import Wide.FinOn
import KE.KOpsOwn
import HandS.ForMost
import HandS.ForExc
import HandS.Property
import HandS.ClsMeth
import KE.KCallOwn
import HandS.HeadNt
import HandS.Lambda
import HandS.ExcInit
import HandS.ExcField
import HandS.Wide
import HandS.Style
import HandS.Gcd
import HandS.Defaults
import HandS.FStr
import HandS.IsInst
import HandS.Walk
import HandS.Codes
import HandS.Head0
import HandS.Head1
import HandS.Head2
import HandS.Head3
import HandS.HeadHook1
import HandS.HeadHook2
import HandS.HeadHook4
import HandS.EndTab
import KE.KStateDown
import Lean
import PySem.Challenge.RW_lastgiver_k01_names_integers_and_ratios
set_option Elab.async false
set_option linter.all false
set_option maxRecDepth 100000
set_option maxHeartbeats 0
namespace K1
open PySem PySem.Spec PyProof.Rows L2 LamX
def top (i : Nat) : Stmt := PySem.Challenge.pw_lastgiver_k01_names_integers_and_ratios.main.body.getD i (.Pass ⟨0, 0, 0, 0⟩)
end K1
namespace K1
open PySem PySem.Spec PyProof.Rows L2 LamX
abbrev sIsInt : Stmt := top 10
end K1
namespace K1
open PySem PySem.Spec PyProof.Rows L2 LamX
abbrev sIsWithin : Stmt := top 11
end K1
namespace K1
open PySem PySem.Spec PyProof.Rows L2 LamX
abbrev sIsName : Stmt := top 12
end K1
namespace K1
open PySem PySem.Spec PyProof.Rows L2 LamX
abbrev sIsListed : Stmt := top 13
end K1
namespace K1
open PySem PySem.Spec PyProof.Rows L2 LamX
abbrev sWordsOf : Stmt := top 14
end K1
namespace K1
open PySem PySem.Spec PyProof.Rows L2 LamX
abbrev sCheckEnd : Stmt := top 15
end K1
namespace K1
open PySem PySem.Spec PyProof.Rows L2 LamX
abbrev sIntIn : Stmt := top 16
end K1
namespace K1
open PySem PySem.Spec PyProof.Rows L2 LamX
abbrev sBadInit : Stmt := inClass (top 3) 0
end K1
namespace K1
open PySem PySem.Spec PyProof.Rows L2 LamX
abbrev sRInit : Stmt := inClass (top 18) 0
end K1
namespace K1
open PySem PySem.Spec PyProof.Rows L2 LamX
abbrev sSign : Stmt := inClass (top 18) 1
end K1
namespace K1
open PySem PySem.Spec PyProof.Rows L2 LamX
abbrev sWhole : Stmt := inClass (top 18) 2
end K1
namespace K1
open PySem PySem.Spec PyProof.Rows L2 LamX
abbrev sAdd : Stmt := inClass (top 18) 3
end K1
namespace K1
open PySem PySem.Spec PyProof.Rows L2 LamX
abbrev sSub : Stmt := inClass (top 18) 4
end K1
namespace K1
open PySem PySem.Spec PyProof.Rows L2 LamX
abbrev sMul : Stmt := inClass (top 18) 5
end K1
namespace K1
open PySem PySem.Spec PyProof.Rows L2 LamX
abbrev sNeg : Stmt := inClass (top 18) 6
end K1
namespace K1
open PySem PySem.Spec PyProof.Rows L2 LamX
abbrev sAbs : Stmt := inClass (top 18) 7
end K1
namespace K1
open PySem PySem.Spec PyProof.Rows L2 LamX
abbrev sBool : Stmt := inClass (top 18) 8
end K1
namespace K1
open PySem PySem.Spec PyProof.Rows L2 LamX
abbrev sEq : Stmt := inClass (top 18) 9
end K1
namespace K1
open PySem PySem.Spec PyProof.Rows L2 LamX
abbrev sStr : Stmt := inClass (top 18) 10
end K1
namespace K1
open PySem PySem.Spec PyProof.Rows L2 LamX
abbrev sRepr : Stmt := inClass (top 18) 11
end K1
namespace K1
open PySem PySem.Spec PyProof.Rows L2 LamX
abbrev sOver : Stmt := inClass (top 18) 12
end K1
namespace K1
open PySem PySem.Spec PyProof.Rows L2 LamX
abbrev sCompared : Stmt := inClass (top 18) 13
end K1
namespace K1
open PySem PySem.Spec PyProof.Rows L2 LamX
abbrev sIsBelow : Stmt := inClass (top 18) 14
end K1
namespace K1
open PySem PySem.Spec PyProof.Rows L2 LamX
abbrev sRead : Stmt := inClass (top 18) 15
end K1
namespace K1
open PySem PySem.Spec PyProof.Rows L2 LamX
abbrev sOf : Stmt := inClass (top 18) 16
end K1
namespace K1
open PySem PySem.Spec PyProof.Rows L2 LamX
abbrev sRight : Stmt := top 19
end K1
namespace K1
open PySem PySem.Spec PyProof.Rows L2 LamX
abbrev sIsRatio : Stmt := top 20
end K1
namespace K1
open PySem PySem.Spec PyProof.Rows L2 LamX
abbrev sAdded : Stmt := top 21
end K1
namespace K1
open PySem PySem.Spec PyProof.Rows L2 LamX
abbrev sLeast : Stmt := top 22
end K1
namespace K1
open PySem PySem.Spec PyProof.Rows L2 LamX
abbrev sGreatest : Stmt := top 23
end K1
namespace K1
open PySem PySem.Spec PyProof.Rows L2 LamX
abbrev sAreRatios : Stmt := top 24
end K1
namespace K1
open PySem PySem.Spec PyProof.Rows L2 LamX
abbrev sSomeRatios : Stmt := top 25
end K1
namespace K1
open PySem PySem.Spec PyProof.Rows L2 LamX
abbrev sRatioIn : Stmt := top 26
end K1
namespace K1
open PySem PySem.Spec PyProof.Rows L2 LamX
abbrev sTub : Stmt := top 28
end K1
namespace K1
open PySem PySem.Spec PyProof.Rows L2 LamX
abbrev sScoop : Stmt := top 29
end K1
namespace K1
open PySem PySem.Spec PyProof.Rows L2 LamX
abbrev sText : Stmt := top 30
end K1
namespace K1
open PySem PySem.Spec PyProof.Rows L2 LamX
abbrev sLIsName : Stmt := top 31
end K1
namespace K1
open PySem PySem.Spec PyProof.Rows L2 LamX
abbrev sChecks : Stmt := top 32
end K1
namespace K1
open PySem PySem.Spec PyProof.Rows L2 LamX
abbrev sPair : Stmt := top 33
end K1
namespace K1
open PySem PySem.Spec PyProof.Rows L2 LamX
abbrev sDivisor : Stmt := top 34
end K1
namespace K1
open PySem PySem.Spec PyProof.Rows L2 LamX
abbrev sDue : Stmt := top 35
end K1
namespace K1
open PySem PySem.Spec PyProof.Rows L2 LamX
abbrev sIs : Stmt := top 36
end K1
namespace K1
open PySem PySem.Spec PyProof.Rows L2 LamX
abbrev sTexts : Stmt := top 37
end K1
namespace K1
open PySem PySem.Spec PyProof.Rows L2 LamX
abbrev sSums : Stmt := top 38
end K1
namespace K1
open PySem PySem.Spec PyProof.Rows L2 LamX
abbrev sRefused : Stmt := top 39
end K1
namespace K1
open PySem PySem.Spec PyProof.Rows L2 LamX
abbrev sErrors : Stmt := top 40
end K1
namespace K1
open PySem PySem.Spec PyProof.Rows L2 LamX
abbrev sLaw : Stmt := top 41
end K1
namespace K1
open PySem PySem.Spec PyProof.Rows L2 LamX
def kinds6 : List String := ["NoneType", "bool", "str", "list", "tuple", "dict"]
end K1
namespace K1
open PySem PySem.Spec PyProof.Rows L2 LamX SX
abbrev rC (K : PySem.W.Frag) : Addr := He.ga K "Ratio"
end K1
namespace K1
open PySem PySem.Spec PyProof.Rows L2 LamX SX
abbrev bC (K : PySem.W.Frag) : Addr := He.ga K "BadRatio"
end K1
namespace K1
open PySem PySem.Spec PyProof.Rows L2 LamX SX
/-- the getter of a property -/
def gP (K : PySem.W.Frag) (m : Str) : Addr := match PySem.W.recIn K (He.ma K (rC K) m) "property" with
  | some (.ref f :: _) => f
  | _ => 0
end K1
namespace K1
open PySem PySem.Spec PyProof.Rows L2 LamX SX
def propB (K : PySem.W.Frag) (m : Str) : Bool := He.eqO (PySem.W.findIn K (.ref (rC K)) m) (some (some (.ref (He.ma K (rC K) m)))) && (He.eqO (PySem.W.specialIn K (.ref (He.ma K (rC K) m)) "__get__") (some (some (.builtin "property.__get__"))) &&
  (decide (PySem.W.takesIn K (.ref (He.ma K (rC K) m)) = some true) && (match PySem.W.recIn K (He.ma K (rC K) m) "property" with
    | some (.ref _ :: _) => true
    | _ => false)))
end K1
namespace K1
open PySem PySem.Spec PyProof.Rows L2 LamX SX
def ownB (K : PySem.W.Frag) (m : Str) : Bool := He.eqO (PySem.W.findIn K (.ref (rC K)) m) (some (some (.ref (He.ma K (rC K) m)))) && PySem.W.isFn K (.ref (He.ma K (rC K) m))
end K1
namespace K1
open PySem PySem.Spec PyProof.Rows L2 LamX SX
def opB (K : PySem.W.Frag) (op : Operator) (T : String) : Bool := (PySem.W.findIn K (.type T) (PySem.dunder op.info.2)).isSome && ((PySem.W.findIn K (.type T) (dunderR op.info.2)).isSome && decide (PySem.W.subIn K (.type T) (.ref (rC K)) = some false))
end K1
namespace K1
open PySem PySem.Spec PyProof.Rows L2 LamX SX
def freeNames : List Str := ["abs", "int", "len", "str", "bool", "repr", "isinstance", "range", "all", "list", "tuple"]
end K1
namespace K1
open PySem PySem.Spec PyProof.Rows L2 LamX SX
def gloNames : List Str := ["Ratio", "BadRatio", "is_integer", "is_within", "is_name", "is_listed", "words_of", "check_end", "integer_in", "_right", "is_ratio", "added", "least_of", "greatest_of", "_are_ratios", "_some_ratios", "ratio_in", "_law_tub", "_law_scoop", "_law_text", "_law_is_name", "_law_checks_right", "_law_pair", "_law_divisor", "_law_due", "_law_is", "_law_texts_right", "_law_sums_right", "_law_refused", "_law_errors_right", "law"]
end K1
namespace K1
open PySem PySem.Spec PyProof.Rows L2 LamX SX
def mroB (C : Addr) : List Value → Bool
  | .ref c :: bm => decide (c = C) && PySem.HandSPX.refsVE bm
  | _ => false
end K1
namespace K1
open PySem PySem.Spec PyProof.Rows L2 LamX SX
/-- an error class: its object, its mro -/
def oexB (K : PySem.W.Frag) (C : Addr) : Bool := match K.lookup C with
  | some ⟨.type t, _, .cls cd, sl⟩ => t == "type" && ((match sl.toList with
    | [_, _, _, _, some (.builtin n), _] => n == "ValueError.__new__"
    | _ => false) && (!cd.hasDel && (cd.hasDict && mroB C cd.mro)))
  | _ => false
end K1
namespace K1
open PySem PySem.Spec PyProof.Rows L2 LamX SX
def factB0 (K : PySem.W.Frag) : Bool :=
  freeNames.all (fun x => He.eqO (PySem.W.nsIn K mainGlobals x) (some none)) && (He.eqO (PySem.W.nsIn K mainGlobals "gcd") (some (some (.builtin "math.gcd"))) && (gloNames.all (fun x => He.eqO (PySem.W.nsIn K mainGlobals x) (some (some (.ref (He.ga K x))))) && ((He.Fa.str "DIGITS" "0123456789").ok K && ((He.Fa.str "LETTERS" "abcdefghijklmnopqrstuvwxyz").ok K && ((He.Fa.int "MOST_DIGITS" 60).ok K && ((He.Fa.int "MOST_SIGNS" 12).ok K && ((He.Fa.cls "Ratio").ok K)))))))
end K1
namespace K1
open PySem PySem.Spec PyProof.Rows L2 LamX SX
def factB1 (K : PySem.W.Frag) : Bool :=
  (He.Fa.noat "Ratio" "top").ok K && ((He.Fa.noat "Ratio" "bottom").ok K && ((He.Fa.mkr "Ratio").ok K && (He.eqO (PySem.W.findIn K (.ref (rC K)) "__class__") (some (some (.builtin "object.__class__"))) && (He.eqO (PySem.W.specialIn K (.builtin "object.__class__") "__get__") (some (some (.builtin "getset_descriptor.__get__"))) && (decide (PySem.W.takesIn K (.builtin "object.__class__") = some true) && (decide (PySem.W.mroIn K (rC K) (.type "object") = some true) && (decide (PySem.W.kitOne K (.ref (rC K)) (.ref (rC K)) = some true))))))))
end K1
namespace K1
open PySem PySem.Spec PyProof.Rows L2 LamX SX
def factB2 (K : PySem.W.Frag) : Bool :=
  decide (PySem.W.kitOne K (.ref (rC K)) (.type "int") = some false) && (decide (PySem.W.kitOne K (.ref (rC K)) (.type "bool") = some false) && (("int" :: kinds6).all (fun T => decide (PySem.W.kitOne K (.type T) (.ref (rC K)) = some false)) && (decide (PySem.W.kitAny K (.ref (rC K)) [.type "list", .type "tuple"] = some false) && ((["over", "compared", "is_below"] : List Str).all (fun m => (He.Fa.meth "Ratio" m).ok K) && ((["__add__", "__sub__", "__mul__", "__neg__", "__abs__", "__bool__", "__eq__", "__str__", "__repr__"] : List Str).all (ownB K) && (PySem.W.selfFirst K (rC K) && ([Operator.Add, Operator.Sub, Operator.Mult].all (fun op => He.eqO (PySem.W.findIn K (.ref (rC K)) (dunderR op.info.2)) (some none)))))))))
end K1
namespace K1
open PySem PySem.Spec PyProof.Rows L2 LamX SX
def factB3 (K : PySem.W.Frag) : Bool :=
  [Operator.Add, Operator.Sub, Operator.Mult].all (fun op => ("int" :: kinds6).all (opB K op)) && (("int" :: kinds6).all (fun T => PySem.W.notFirst K (rC K) (.type T)) && (PySem.W.notFirst K (rC K) (.ref (rC K)) && ((["sign", "is_whole"] : List Str).all (propB K) && (PySem.W.readsIn K (rC K) (.type "type") && (He.eqO (PySem.W.specialIn K (.ref (rC K)) "__getattribute__") (some (some (.builtin "type.__getattribute__"))) && (He5.wrapB K (rC K) "classmethod" "classmethod.__get__" "read" && (PySem.W.fnIn K (He5.wf K (rC K) "classmethod" "read"))))))))
end K1
namespace K1
open PySem PySem.Spec PyProof.Rows L2 LamX SX
def factB4 (K : PySem.W.Frag) : Bool :=
  He5.wrapB K (rC K) "staticmethod" "staticmethod.__get__" "of" && (oexB K (bC K) && (He.eqO (PySem.W.findIn K (.ref (bC K)) "__setattr__") (some (some (.builtin "object.__setattr__"))) && (decide (PySem.W.typeIn K (.ref (bC K)) = some (.type "type")) && (PySem.W.keepIn K (.ref (bC K)) && (xfB K (bC K) && (He.eqO (PySem.W.findIn K (.ref (bC K)) "part") (some none) && (decide (PySem.W.exmOne K (.ref (bC K)) (.ref (bC K)) = some true))))))))
end K1
namespace K1
open PySem PySem.Spec PyProof.Rows L2 LamX SX
def factB5 (K : PySem.W.Frag) : Bool :=
  He.eqO (PySem.W.findIn K (.ref (bC K)) "__init__") (some (some (.ref (He.ma K (bC K) "__init__")))) && (decide (PySem.W.typeIn K (.ref (He.ma K (bC K) "__init__")) = some (.type "function")))
end K1
namespace K1
open PySem PySem.Spec PyProof.Rows L2 LamX SX
def mkA (a : PySem.W.Frag → Addr) (name qual : Str) (st : Stmt) (dfl : List He.Dv := []) : He5.DefA := { at_ := a, name := name, qual := qual, params := defArgs st, body := defBody st, scope := defScope st, dfl := dfl }
end K1
namespace K1
open PySem PySem.Spec PyProof.Rows L2 LamX SX
def topA (x : Str) (st : Stmt) : He5.DefA := mkA (fun K => He.ga K x) x x st
end K1
namespace K1
open PySem PySem.Spec PyProof.Rows L2 LamX SX
def fns : List He5.DefA := [mkA (fun K => He.ma K (rC K) "__init__") "__init__" "Ratio.__init__" sRInit [.int 1],
  mkA (fun K => He.ma K (bC K) "__init__") "__init__" "BadRatio.__init__" sBadInit,
  mkA (fun K => gP K "sign") "sign" "Ratio.sign" sSign,
  mkA (fun K => gP K "is_whole") "is_whole" "Ratio.is_whole" sWhole,
  mkA (fun K => He5.wf K (rC K) "classmethod" "read") "read" "Ratio.read" sRead,
  mkA (fun K => He5.wf K (rC K) "staticmethod" "of") "of" "Ratio.of" sOf,
  mkA (fun K => He.ma K (rC K) "__add__") "__add__" "Ratio.__add__" sAdd,
  mkA (fun K => He.ma K (rC K) "__sub__") "__sub__" "Ratio.__sub__" sSub,
  mkA (fun K => He.ma K (rC K) "__mul__") "__mul__" "Ratio.__mul__" sMul,
  mkA (fun K => He.ma K (rC K) "__neg__") "__neg__" "Ratio.__neg__" sNeg,
  mkA (fun K => He.ma K (rC K) "__abs__") "__abs__" "Ratio.__abs__" sAbs,
  mkA (fun K => He.ma K (rC K) "__bool__") "__bool__" "Ratio.__bool__" sBool,
  mkA (fun K => He.ma K (rC K) "__eq__") "__eq__" "Ratio.__eq__" sEq,
  mkA (fun K => He.ma K (rC K) "__str__") "__str__" "Ratio.__str__" sStr,
  mkA (fun K => He.ma K (rC K) "__repr__") "__repr__" "Ratio.__repr__" sRepr,
  mkA (fun K => He.ma K (rC K) "over") "over" "Ratio.over" sOver,
  mkA (fun K => He.ma K (rC K) "compared") "compared" "Ratio.compared" sCompared,
  mkA (fun K => He.ma K (rC K) "is_below") "is_below" "Ratio.is_below" sIsBelow,
  topA "is_integer" sIsInt,
  topA "is_within" sIsWithin,
  topA "is_name" sIsName,
  topA "is_listed" sIsListed,
  topA "words_of" sWordsOf,
  topA "check_end" sCheckEnd,
  topA "integer_in" sIntIn,
  topA "_right" sRight,
  topA "is_ratio" sIsRatio,
  topA "added" sAdded,
  topA "least_of" sLeast,
  topA "greatest_of" sGreatest,
  topA "_are_ratios" sAreRatios,
  topA "_some_ratios" sSomeRatios,
  topA "ratio_in" sRatioIn,
  topA "_law_tub" sTub,
  topA "_law_scoop" sScoop,
  topA "_law_text" sText,
  topA "_law_is_name" sLIsName,
  topA "_law_checks_right" sChecks,
  topA "_law_pair" sPair,
  topA "_law_divisor" sDivisor,
  topA "_law_due" sDue,
  topA "_law_is" sIs,
  topA "_law_texts_right" sTexts,
  topA "_law_sums_right" sSums,
  topA "_law_refused" sRefused,
  topA "_law_errors_right" sErrors,
  topA "law" sLaw]
end K1
namespace K1
open PySem PySem.Spec PyProof.Rows L2 LamX SX
/-- the code object of the def with the lambdas, its table -/
abbrev eC (K : PySem.W.Frag) : Addr := He.codeOf K ("_law_errors_right", none)
end K1
namespace K1
open PySem PySem.Spec PyProof.Rows L2 LamX SX
abbrev eT (K : PySem.W.Frag) : Addr := He.tabOf K (eC K)
end K1
namespace K1
open PySem PySem.Spec PyProof.Rows L2 LamX
def loose0 : List PySem.Str := ["LastError", "BadRatio", "BadText", "LETTERS", "DIGITS", "MOST_SIGNS", "MOST_DIGITS", "is_integer", "is_within", "is_name", "is_listed", "words_of", "check_end", "integer_in", "Ratio", "_right", "is_ratio", "added", "least_of", "greatest_of"]
end K1
namespace K1
open PySem PySem.Spec PyProof.Rows L2 LamX
def loose1 : List PySem.Str := ["_are_ratios", "_some_ratios", "ratio_in", "_law_tub", "_law_scoop", "_law_text", "_law_is_name", "_law_checks_right", "_law_pair", "_law_divisor", "_law_due", "_law_is", "_law_texts_right", "_law_sums_right", "_law_refused", "_law_errors_right"]
end K1
namespace K1
open PySem PySem.Spec PyProof.Rows L2 LamX
def loose : List PySem.Str := loose0 ++ loose1
end K1
namespace K1
open PySem PySem.Spec PyProof.Rows L2 LamX
abbrev R : PySem.W.OpenRow := PySem.W.OpenLaw.row PySem.Challenge.rw_lastgiver_k01_names_integers_and_ratios
end K1
namespace K1
open PySem PySem.Spec PyProof.Rows L2 LamX
noncomputable abbrev wf (w : World) : Option (Shared × PySem.W.SharedT) := HandSHeadRun.wholeF (fun p => HandSHeadRun.stepQ (HandSHeadRun.denQ HandSHeadRun.tabQ) p w) HandSHeadRun.fenceQ 40000 R.prog
end K1
namespace K1
open PySem PySem.Spec PyProof.Rows L2 LamX
abbrev sq (s : Shared) : Bool := PySem.W.xlAt (PySem.W.view R.prog [0, 41]) [] s && PySem.W.recOk R.toRowW.records s
end K1
namespace K1
open PySem PySem.Spec PyProof.Rows L2 LamX
/-- the addresses that are looked at -/
def adl : List Addr := [3, 6, 4, 52, 72, 91, 100, 107, 112, 119, 126, 133, 138, 276, 287, 294, 301, 306, 313, 318, 325, 332, 339, 346, 351, 356, 363, 370, 377, 384, 391, 396, 403, 410, 417, 424, 0, 51, 71, 90, 99, 106, 111, 118, 125, 132, 137, 275, 286, 293, 300, 305, 312, 317, 324, 331, 338, 345, 350, 355, 362, 369, 376, 383, 390, 395, 402, 409, 416, 423, 50, 53, 69, 70, 88, 89, 94, 95, 96, 97, 98, 101, 102, 103, 104, 105, 108, 109, 110, 113, 114, 115, 116, 117, 120, 121, 122, 123, 124, 127, 128, 129, 130, 131, 134, 135, 136, 153, 161, 169, 176, 183, 190, 197, 204, 211, 218, 225, 232, 239, 246, 253, 262, 272, 274, 277, 278, 281, 282, 283, 284, 285, 288, 289, 290, 291, 292, 295, 296, 297, 298, 299, 302, 303, 304, 307, 308, 309, 310, 311, 314, 315, 316, 319, 320, 321, 322, 323, 326, 327, 328, 329, 330, 333, 334, 335, 336, 337, 340, 341, 342, 343, 344, 347, 348, 349, 352, 353, 354, 357, 358, 359, 360, 361, 364, 365, 366, 367, 368, 371, 372, 373, 374, 375, 378, 379, 380, 381, 382, 385, 386, 387, 388, 389, 392, 393, 394, 397, 398, 399, 400, 401, 404, 405, 406, 407, 408, 411, 412, 413, 414, 415, 418, 419, 420, 421, 422, 68, 87, 152, 146, 160, 168, 175, 182, 189, 196, 203, 210, 217, 224, 231, 238, 245, 252, 260, 261, 270, 271, 63, 64, 65, 66, 67, 82, 83, 84, 85, 86, 147, 148, 149, 150, 151, 159, 167, 170, 171, 172, 173, 174, 177, 178, 179, 180, 181, 184, 185, 186, 187, 188, 191, 192, 193, 194, 195, 198, 199, 200, 201, 202, 205, 206, 207, 208, 209, 212, 213, 214, 215, 216, 219, 220, 221, 222, 223, 226, 227, 228, 229, 230, 233, 234, 235, 236, 237, 240, 241, 242, 243, 244, 247, 248, 249, 250, 251, 259, 263, 269, 273, 2]
end K1
namespace K1
open PySem PySem.Spec PyProof.Rows L2 LamX
abbrev oF (s : PySem.W.SharedT) : PySem.W.Frag := He.frT (HandSHeadRun.getT s) adl
end K1
namespace K1
open PySem PySem.Spec PyProof.Rows L2 LamX
def factAll (K : PySem.W.Frag) : Bool := factB0 K && (factB1 K && (factB2 K && (factB3 K && (factB4 K && (factB5 K)))))
end K1
namespace K1
open PySem PySem.Spec PyProof.Rows L2 LamX
def tabE (g : Addr → Option Obj) (K : PySem.W.Frag) : Bool := PySem.W.codeHdIn K (eC K) (eT K) && (match g (eT K) with
  | some o => He.emptyTab o
  | none => false)
end K1
namespace K1
open PySem PySem.Spec PyProof.Rows L2 LamX
theorem runA1 (w : World) : (wf w).map (fun x => HandSHeadRun.looksF R.prog x.1.heap x.2.abs) = some true := by kernel_rfl
theorem runA2 (w : World) : (wf w).map (fun x => HandSHeadRun.seenQ (PySem.W.view R.prog [0, 41]) loose (importedModules R.prog.main.body) sq x.2.abs) = some (PySem.W.openGood (PySem.W.view R.prog [0, 41]) loose) := by kernel_rfl
theorem runB0 (w : World) : (wf w).map (fun x => factB0 (oF x.2)) = some true := by kernel_rfl
theorem runB1 (w : World) : (wf w).map (fun x => factB1 (oF x.2)) = some true := by kernel_rfl
theorem runB2 (w : World) : (wf w).map (fun x => factB2 (oF x.2)) = some true := by kernel_rfl
theorem runB3 (w : World) : (wf w).map (fun x => factB3 (oF x.2)) = some true := by kernel_rfl
theorem runB4 (w : World) : (wf w).map (fun x => factB4 (oF x.2)) = some true := by kernel_rfl
theorem runB5 (w : World) : (wf w).map (fun x => factB5 (oF x.2)) = some true := by kernel_rfl
theorem runD (w : World) : (wf w).map (fun x => He5.obsA [] fns (oF x.2)) = some (He5.valA fns) := by kernel_rfl
theorem runT (w : World) : (wf w).map (fun x => tabE (HandSHeadRun.getT x.2) (oF x.2)) = some true := by kernel_rfl
end K1
/-! Operators, abs, truth, == of an own class; a static method: rules over the layer. -/
namespace K1
open PySem PySem.Spec PyProof.Rows L2

section
open PySem.W PySem.Calls
variable {prog : Program} {w : World} {A : Around} {E : Value → Shared → Prop} {s : Shared} {K : Frag} {x C L f : Addr} {h0 : Heap} {m : Str → Option Value} {ox : Obj} {od : Option Obj} {T : String}
/-- o op b, b of a built-in class that a look at the heap tells -/
theorem bin_look {op : Operator} {b : Value} {fo ro rc : Option Value} {Q : Value → Shared → Prop} (F : Fr h0 L s.heap m) (X0 : K.In h0) (I : InstAt s.heap x ox C od) (hb : ∀ h', (∀ a o, s.heap.get? a = some o → h'.get? a = some o) → Looks (model prog w) h' (typeOf b) (.type T))
    (hc : selfFirst K C = true) (hs : findIn K (.ref C) (PySem.dunder op.info.2) = some (some (.ref f))) (hf : isFn K (.ref f) = true) (hr : findIn K (.ref C) (dunderR op.info.2) = some rc) (hp : rc = none ∨ ∃ g : Addr, rc = some (.ref g))
    (t1 : findIn K (.type T) (PySem.dunder op.info.2) = some fo) (t2 : findIn K (.type T) (dunderR op.info.2) = some ro) (ts : subIn K (.type T) (.ref C) = some false)
    (h : wpAny (model prog w) A (call (.ref f) [.ref x, b]) (PySem.W.CmpBack Q) E s) : wpAny (model prog w) A (binaryOp op (.ref x) b) Q E s := by
  have KX := X0.keeps F.keep
  obtain ⟨cd, rest, c1, c2⟩ := ksp_first hc
  rcases e : op.info with ⟨sy, n⟩
  rw [e] at hs hr t1 t2
  dsimp only at hs hr t1 t2
  have done := ksp_try KX I hs hf h
  have hb1 := hb s.heap fun _ _ z => z
  obtain ⟨hh, g, d, tt, os⟩ := s
  have k1 : Looks (model prog w) hh (typeOf (.ref x)) (.ref C) := I.type
  have k2 : Looks (model prog w) hh (typeOf b) (.type T) := hb1
  have k3 : Looks (model prog w) hh (fillsNumberSlot (.ref C) n) true := fills_K KX c1 c2 hs
  obtain ⟨rt, k4⟩ : ∃ rt, Looks (model prog w) hh (fillsNumberSlot (.type T) n) rt := ⟨_, ksp_fillsT KX t1 t2⟩
  have k5 : Looks (model prog w) hh (isSubtype (.type T) (.ref C)) false := looks_subIn KX ts
  have k6 : Looks (model prog w) hh (numberSlotInPython (.ref C) n) true := ksp_inPy KX hs hr hp
  have k7 : Looks (model prog w) hh (numberSlotInPython (.type T) n) false := Looks.of_pure rfl
  have k8 : Looks (model prog w) hh (typeLookup (.type T) (dunderR n)) ro := looks_findIn KX t2
  have ne : (Value.ref C == Value.type T) = false := Bool.eq_false_iff.mpr fun q => by cases beq_iff_eq.mp q
  simp only [binaryOp, e]
  refine wpAny_holding (wpAny_bind ?_)
  unfold binaryOp1
  refine wpAny_bind (k1.at (wpAny_bind (k2.at (wpAny_bind (k3.at ?_)))))
  simp only [ne, Bool.false_eq_true, if_false]
  cases rt <;>
  · ksp_lk
    refine wpAny_mono done (fun r s' z => ?_) fun _ _ q => q
    obtain ⟨v, rfl, hq⟩ := z
    ksp_lk
    exact hq
theorem abs_own {Q : Value → Shared → Prop} (X : K.In s.heap) (I : InstAt s.heap x ox C od) (hs : findIn K (.ref C) "__abs__" = some (some (.ref f))) (hf : isFn K (.ref f) = true)
    (h : wpAny (model prog w) A.in1 (call (.ref f) [.ref x]) Q E s) : wpAny (model prog w) A (call (.builtin "abs") [.ref x]) Q E s := by
  refine call_function_entry kind_abs plain_abs entry_abs (args_abs _) ?_
  unfold Builtin.«abs»
  refine wpAny_bind (m := oneArg "abs" _) (wpAny_pure ?_)
  refine wpAny_bind (m := callSpecial? (.ref x) (Str.ofString "__abs__")) (special_fn X I hs (beq_iff_eq.mp hf) (wpAny_mono h (fun r s' hr => ?_) fun _ _ y => y))
  exact wpAny_pure ⟨_, rfl, hr⟩
end

/-! ### over the layer -/
section
variable {X : Cx} {pins : List (Addr × Obj)} {σ : L2.St} {H : Hp} {s s' : Shared} {Q : VK}
theorem ep_back {u : Value} (h : EP X pins σ Q u s') : PySem.W.CmpBack (EP X pins σ Q) u s' := by
  cases u with
  | notImplemented =>
    obtain ⟨v, H', I, r, q⟩ := h
    exfalso
    cases v <;> first | exact nomatch (r : Value.notImplemented = _) | (have z : ∃ t, Value.notImplemented = _ := r; obtain ⟨t, e⟩ := z; exact nomatch e)
  | _ => exact h
/-- the type of a value, looked up -/
theorem ty_look {M : Model} {x : V} {u t : Value} (I : Inv X pins σ H s) (rx : RelV x u) (ty : TyOf X.K H x t) : PySem.W.Looks M s.heap (typeOf u) t := by
  cases ty with
  | non => cases (show u = Value.none from rx); exact PySem.W.Looks.of_pure rfl
  | bl y => cases (show u = Value.bool y from rx); exact PySem.W.Looks.of_pure rfl
  | int i => obtain ⟨t, q⟩ := (show ∃ t, u = Value.int i t from rx); cases q; exact PySem.W.Looks.of_pure rfl
  | str y => obtain ⟨t, q⟩ := (show ∃ t, u = Value.str y t from rx); cases q; exact PySem.W.Looks.of_pure rfl
  | flt y => obtain ⟨t, q⟩ := (show ∃ t, u = Value.float y t from rx); cases q; exact PySem.W.Looks.of_pure rfl
  | @lst a xs ea =>
    cases (show u = Value.ref a from rx)
    obtain ⟨_, _, n, _, h1⟩ := (show ObjOk X.prog X.w H s.heap a (.lst xs) from I.hok a _ ea)
    exact (PySem.W.Looks.ld (part := none) h1).andThen .now
  | @frz a ob xs ea =>
    cases (show u = Value.ref a from rx)
    obtain ⟨_, _, _, n, _, h1⟩ := (show ObjOk X.prog X.w H s.heap a (.frz ob (.lst xs)) from I.hok a _ ea)
    exact (PySem.W.Looks.ld (part := none) h1).andThen .now
  | @tup a xs ea =>
    cases (show u = Value.ref a from rx)
    obtain ⟨_, _, _, o, h1, h2, _⟩ := (show ObjOk X.prog X.w H s.heap a (.tup xs) from I.hok a _ ea)
    rw [← h2]
    exact (PySem.W.Looks.ld (part := none) h1).andThen .now
  | @dK a kvs ea =>
    cases (show u = Value.ref a from rx)
    obtain ⟨_, _, vs, _, o, es, ep, h1, h2, _⟩ := (show ObjOk X.prog X.w H s.heap a (.dK kvs) from I.hok a _ ea)
    rw [← h2.1]
    exact (PySem.W.Looks.ld (part := none) h1).andThen .now
  | @dT a kvs ea =>
    cases (show u = Value.ref a from rx)
    obtain ⟨_, _, xs, _, o, es, ep, h1, h2, _⟩ := (show ObjOk X.prog X.w H s.heap a (.dT kvs) from I.hok a _ ea)
    rw [← h2.1]
    exact (PySem.W.Looks.ld (part := none) h1).andThen .now
  | @ins a C dx fs ea cl ha hn htk hm =>
    cases (show u = Value.ref a from rx)
    obtain ⟨mA, O, _⟩ := ins_get I.hok ea
    obtain ⟨od, J, _⟩ := O.look
    exact J.type
end

/-- an own operator's def: where it is found -/
structure OwnM (K : PySem.W.Frag) (C : Addr) (nm : Str) (f : Addr) : Prop where
  at_ : PySem.W.findIn K (.ref C) nm = some (some (.ref f))
  fn : PySem.W.isFn K (.ref f) = true
/-- what stands at the right: an instance of the class itself, or a value of a built-in class with these facts -/
def RightO (K : PySem.W.Frag) (C : Addr) (op : Operator) (y : V) (H : Hp) : Prop :=
  (∃ a dx fs, y = .ref a ∧ H a = some (.ins C dx fs)) ∨ ∃ (T : String) (fo ro : Option Value), TyOf K H y (.type T) ∧ PySem.W.findIn K (.type T) (PySem.dunder op.info.2) = some fo ∧ PySem.W.findIn K (.type T) (dunderR op.info.2) = some ro ∧ PySem.W.subIn K (.type T) (.ref C) = some false
/-- x op y: the def's promise at the two -/
def rOwn (K : PySem.W.Frag) (C : Addr) (op : Operator) (sp : Sp) (E : XK) : R2 := fun x y H Q => ∃ a dx fs, x = .ref a ∧ H a = some (.ins C dx fs) ∧ RightO K C op y H ∧ sp [x, y] H Q E
section
variable {X : Cx} {CX : CXT} {k : Nat} {C f : Addr} {fd : FuncData} {ps : List Str} {sp : Sp} {E : XK}
theorem op_own {op : Operator} (M : OwnM X.K C (PySem.dunder op.info.2) f) (c1 : PySem.W.selfFirst X.K C = true) (c2 : PySem.W.findIn X.K (.ref C) (dunderR op.info.2) = some none)
    (F : FnOk X.prog X.w X.K X.mg X.base CX k f fd ps sp) (hr : Room k X.A) (hb : Binds X.K fd ps []) (hx : Passes CX X E) : OpR X (binaryOp op) (rOwn X.K C op sp E) := by
  intro pins s σ H x y v u Q I rx ry h
  obtain ⟨a, dx, fs, rfl, ha, hy, hs⟩ := h
  obtain rfl : v = Value.ref a := rx
  obtain ⟨mA, O, _⟩ := ins_get I.hok ha
  obtain ⟨od, J, _⟩ := O.look
  obtain ⟨m, hF⟩ := I.fr
  have run : wpAny (model X.prog X.w) X.A (call (.ref f) [.ref a, u]) (PySem.W.CmpBack (EP X pins σ Q)) X.xe s :=
    thn (run_fn (us := [.ref a, u]) (vs := [.ref a, y]) (dvs := []) F hr hb .nil hx I (.cons rfl (.cons ry .nil)) (by rw [List.append_nil]; exact hs)) fun _ _ z => ep_back z
  rcases hy with ⟨b, dy, gs, rfl, hb'⟩ | ⟨T, fo, ro, ty, t1, t2, t3⟩
  · obtain rfl : u = Value.ref b := ry
    obtain ⟨mB, O', _⟩ := ins_get I.hok hb'
    obtain ⟨od', J', _⟩ := O'.look
    exact PySem.W.binop_K hF I.ok.mod.kin J J'.type c1 M.at_ M.fn run
  · exact bin_look hF I.ok.mod.kin J (fun h' kp => (ty_look I ry ty).keeps kp) c1 M.at_ M.fn c2 (.inl rfl) t1 t2 t3 run
/-- -x -/
theorem un_own (M : OwnM X.K C "__neg__" f) (F : FnOk X.prog X.w X.K X.mg X.base CX k f fd ps sp) (hr : Room k X.A) (hb : Binds X.K fd ps []) (hx : Passes CX X E) :
    UnR X (unaryOp .USub) (fun x H Q => ∃ a dx fs, x = .ref a ∧ H a = some (.ins C dx fs) ∧ sp [x] H Q E) := by
  intro pins s σ H x v Q I rx h
  obtain ⟨a, dx, fs, rfl, ha, hs⟩ := h
  obtain rfl : v = Value.ref a := rx
  obtain ⟨mA, O, _⟩ := ins_get I.hok ha
  obtain ⟨od, J, _⟩ := O.look
  obtain ⟨m, hF⟩ := I.fr
  exact PySem.W.ksp_neg hF I.ok.mod.kin J M.at_ M.fn (run_fn (us := [.ref a]) (vs := [.ref a]) (dvs := []) F hr hb .nil hx I (.cons rfl .nil) (by rw [List.append_nil]; exact hs))
/-- abs(x) -/
theorem call_absO (M : OwnM X.K C "__abs__" f) (F : FnOk X.prog X.w X.K X.mg X.base CX k f fd ps sp) (hr : Room (k + 1) X.A) (hb : Binds X.K fd ps []) (hx : Passes CX X.nox E) :
    CallR X (.builtin "abs") (fun xs H Q => ∃ a dx fs, xs = [.ref a] ∧ H a = some (.ins C dx fs) ∧ sp [.ref a] H Q E) := by
  intro pins s σ H xs us Q I r h
  obtain ⟨a, dx, fs, rfl, ha, hs⟩ := h
  obtain ⟨u, rfl, ru⟩ := vals1 r
  obtain rfl : u = Value.ref a := ru
  obtain ⟨mA, O, _⟩ := ins_get I.hok ha
  obtain ⟨od, J, _⟩ := O.look
  have hl := F.len _ _ _ _ hs
  refine abs_own I.kIn J M.at_ M.fn (wpAny_call (codeAny_mono (F.run X.A.in1 X.stack s H ⟨[.ref a], []⟩ [.ref a] [.ref a] Q E hr.in1 I.env0.in1 (by
    have z := hb s [.ref a] I.kIn (by simpa using hl)
    simpa using z) (.cons rfl .nil) hs) fun r s' hq => ?_))
  cases r with
  | error e => exact False.elim (hx pins σ H s e s' (I.wish _) hq)
  | ok fl =>
    cases fl with
    | ret w => exact I.after hq
    | next => exact False.elim hq
    | brk => exact False.elim hq
    | cont => exact False.elim hq
/-- x as a test, an own __bool__ that tells a truth -/
theorem tru_own (M : OwnM X.K C "__bool__" f) (F : FnOk X.prog X.w X.K X.mg X.base CX k f fd ps sp) (hr : Room k X.A) (hb : Binds X.K fd ps []) (hx : Passes CX X E) :
    TruR X (fun x H Q => ∃ a dx fs, x = .ref a ∧ H a = some (.ins C dx fs) ∧ sp [x] H (fun v H' => ∃ b, v = .bl b ∧ Q b H') E) := by
  intro pins s σ H x v Q I rx h
  obtain ⟨a, dx, fs, rfl, ha, hs⟩ := h
  obtain rfl : v = Value.ref a := rx
  obtain ⟨mA, O, _⟩ := ins_get I.hok ha
  obtain ⟨od, J, _⟩ := O.look
  obtain ⟨m, hF⟩ := I.fr
  refine PySem.W.truthy_K hF I.ok.mod.kin J M.at_ M.fn (thn (run_fn (us := [.ref a]) (vs := [.ref a]) (dvs := []) F hr hb .nil hx I (.cons rfl .nil) (by rw [List.append_nil]; exact hs)) fun u s' z => ?_)
  obtain ⟨w', H', I', rw', b, rfl, q⟩ := z
  obtain rfl : u = Value.bool b := rw'
  exact ⟨H', I', q⟩
end
end K1

namespace K1
open PySem PySem.Spec PyProof.Rows L2

section
open PySem.W PySem.Calls
variable {prog : Program} {w : World} {A : Around} {E : Value → Shared → Prop} {s : Shared} {K : Frag} {x C f : Addr} {ox : Obj} {od : Option Obj}
/-- bool(o), an own __bool__ -/
theorem bool_own {Q : Value → Shared → Prop} {h0 : Heap} {L : Addr} {m : Str → Option Value} (F : Fr h0 L s.heap m) (X0 : K.In h0) (I : InstAt s.heap x ox C od) (hs : findIn K (.ref C) "__bool__" = some (some (.ref f))) (hf : isFn K (.ref f) = true)
    (h : wpAny (model prog w) A.in1.in1 (call (.ref f) [.ref x]) (PySem.W.BoolBack fun b s' => Q (.bool b) s') E s) : wpAny (model prog w) A (call (.type "bool") [.ref x]) Q E s := by
  refine callType_codes (T := "bool") (Bi := Builtin.«object.__init__») (Q₁ := fun r s₁ => ∃ b, r = .bool b ∧ Q r s₁) PySem.F.called_bool (PySem.F.typeCall_bool_1 _) PySem.F.entry_object_init ?_ ?_
  · refine codeAny_of_tree ?_
    show wpAny _ _ (do checkBuiltinCall "bool.__new__" ⟨[.type "bool", .ref x], []⟩; again (.builtin "bool.__new__" ⟨[.type "bool", .ref x], []⟩)) _ _ s
    refine wpAny_bind (wpAny_of_eq (PySem.F.newCall_bool_1 _) (wpAny_pure ⟨plainId_quiet (by decide +kernel) _, codeAny_builtin PySem.F.entry_bool_new ?_⟩))
    rw [Around.under_plainId (by decide +kernel) _]
    unfold Builtin.«bool.__new__»
    have f1 := PySem.F.conv_sub_bool
    have tr : ∀ {P : Bool → Shared → Prop} {E2 : Value → Shared → Prop}, (∀ b s', Q (.bool b) s' → P b s') → (∀ e s', E e s' → E2 e s') → wpAny (model prog w) A.in1.in1 (truthy (.ref x)) P E2 s := fun p e => wpAny_mono (truthy_K F X0 I hs hf h) p e
    clear h hs hf I X0 F
    obtain ⟨hp, g, d, tk, os⟩ := s
    repeat (any_goals (first | assumption | (with_reducible refine tr (fun b s' hb => ?_) (fun e s' he => ?_)) | wp_step))
    all_goals first | exact ⟨_, rfl, hb⟩ | exact he | skip
  · rintro obj s₁ ⟨b, rfl, hq⟩
    exact ⟨rfl, PySem.F.args_object_init_2 _ _, object_init_meets PySem.F.called_bool.init.lookup PySem.F.called_bool.made (by decide) prog w A.in1 _ s₁ ⟨rfl, rfl, hq⟩⟩
end

section
variable {X : Cx} {CX : CXT} {k : Nat} {C f : Addr} {fd : FuncData} {ps : List Str} {sp : Sp} {E : XK}
/-- bool(x) -/
theorem call_boolO (M : OwnM X.K C "__bool__" f) (F : FnOk X.prog X.w X.K X.mg X.base CX k f fd ps sp) (hr : Room (k + 2) X.A) (hb : Binds X.K fd ps []) (hx : Passes CX X.nox E) :
    CallR X (.type "bool") (fun xs H Q => ∃ a dx fs, xs = [.ref a] ∧ H a = some (.ins C dx fs) ∧ sp [.ref a] H (fun v H' => ∃ b, v = .bl b ∧ Q (.bl b) H') E) := by
  intro pins s σ H xs us Q I r h
  obtain ⟨a, dx, fs, rfl, ha, hs⟩ := h
  obtain ⟨u, rfl, ru⟩ := vals1 r
  obtain rfl : u = Value.ref a := ru
  obtain ⟨mA, O, _⟩ := ins_get I.hok ha
  obtain ⟨od, J, _⟩ := O.look
  obtain ⟨m, hF⟩ := I.fr
  have hl := F.len _ _ _ _ hs
  refine bool_own hF I.ok.mod.kin J M.at_ M.fn (wpAny_call (codeAny_mono (F.run X.A.in1.in1 X.stack s H ⟨[.ref a], []⟩ [.ref a] [.ref a] _ E hr.in1.in1 I.env0.in1.in1 (by
    have z := hb s [.ref a] I.kIn (by simpa using hl)
    simpa using z) (.cons rfl .nil) hs) fun r s' hq => ?_))
  cases r with
  | error e => exact False.elim (hx pins σ H s e s' (I.wish _) hq)
  | ok fl =>
    cases fl with
    | ret u =>
      obtain ⟨v, H2, I2, rv, b, rfl, q⟩ := I.after hq
      obtain rfl : u = Value.bool b := rv
      exact ⟨.bl b, H2, I2, rfl, q⟩
    | next => exact False.elim hq
    | brk => exact False.elim hq
    | cont => exact False.elim hq
/-- repr(x) -/
theorem call_reprO (M : OwnM X.K C "__repr__" f) (F : FnOk X.prog X.w X.K X.mg X.base CX k f fd ps sp) (hr : Room (k + 1) X.A) (hb : Binds X.K fd ps []) (hx : Passes CX X.nox E) :
    CallR X (.builtin "repr") (fun xs H Q => ∃ a dx fs, xs = [.ref a] ∧ H a = some (.ins C dx fs) ∧ sp [.ref a] H (fun v H' => ∃ t, v = .str t ∧ Q (.str t) H') E) := by
  intro pins s σ H xs us Q I r h
  obtain ⟨a, dx, fs, rfl, ha, hs⟩ := h
  obtain ⟨u, rfl, ru⟩ := vals1 r
  obtain rfl : u = Value.ref a := ru
  obtain ⟨mA, O, _⟩ := ins_get I.hok ha
  obtain ⟨od, J, _⟩ := O.look
  obtain ⟨m, hF⟩ := I.fr
  have hl := F.len _ _ _ _ hs
  have un := hr.in1.un
  refine PySem.W.repr_K (by omega) hF I.ok.mod.kin J M.at_ M.fn (wpAny_call (codeAny_mono (F.run X.A.in1 X.stack s H ⟨[.ref a], []⟩ [.ref a] [.ref a] _ E hr.in1 I.env0.in1 (by
    have z := hb s [.ref a] I.kIn (by simpa using hl)
    simpa using z) (.cons rfl .nil) hs) fun r s' hq => ?_))
  cases r with
  | error e => exact False.elim (hx pins σ H s e s' (I.wish _) hq)
  | ok fl =>
    cases fl with
    | ret u =>
      obtain ⟨v, H2, I2, rv, t, rfl, q⟩ := I.after hq
      obtain ⟨tk, rfl⟩ := rv
      exact ⟨.str t, H2, I2, ⟨tk, rfl⟩, q⟩
    | next => exact False.elim hq
    | brk => exact False.elim hq
    | cont => exact False.elim hq
/-- str(x) -/
theorem call_strO (M : OwnM X.K C "__str__" f) (F : FnOk X.prog X.w X.K X.mg X.base CX k f fd ps sp) (hr : Room (k + 2) X.A) (hb : Binds X.K fd ps []) (hx : Passes CX X.nox E) :
    CallR X (.type "str") (fun xs H Q => ∃ a dx fs, xs = [.ref a] ∧ H a = some (.ins C dx fs) ∧ sp [.ref a] H (fun v H' => ∃ t, v = .str t ∧ Q (.str t) H') E) := by
  intro pins s σ H xs us Q I r h
  obtain ⟨a, dx, fs, rfl, ha, hs⟩ := h
  obtain ⟨u, rfl, ru⟩ := vals1 r
  obtain rfl : u = Value.ref a := ru
  obtain ⟨mA, O, _⟩ := ins_get I.hok ha
  obtain ⟨od, J, _⟩ := O.look
  have hl := F.len _ _ _ _ hs
  have un := hr.in1.in1.un
  refine PySem.W.kso_call (by omega) I.kIn J M.at_ M.fn (wpAny_call (codeAny_mono (F.run X.A.in1.in1 X.stack s H ⟨[.ref a], []⟩ [.ref a] [.ref a] _ E hr.in1.in1 I.env0.in1.in1 (by
    have z := hb s [.ref a] I.kIn (by simpa using hl)
    simpa using z) (.cons rfl .nil) hs) fun r s' hq => ?_))
  cases r with
  | error e => exact False.elim (hx pins σ H s e s' (I.wish _) hq)
  | ok fl =>
    cases fl with
    | ret u =>
      obtain ⟨v, H2, I2, rv, t, rfl, q⟩ := I.after hq
      obtain ⟨tk, rfl⟩ := rv
      exact ⟨.str t, H2, I2, ⟨tk, rfl⟩, q⟩
    | next => exact False.elim hq
    | brk => exact False.elim hq
    | cont => exact False.elim hq
/-- x == y, x such an instance -/
def rEqO (K : PySem.W.Frag) (C : Addr) (sp : Sp) (E : XK) : R2 := fun x y H Q => ∃ a dx fs t, x = .ref a ∧ H a = some (.ins C dx fs) ∧ TyOf K H y t ∧ PySem.W.notFirst K C t = true ∧ sp [x, y] H Q E
theorem op_eqO (M : OwnM X.K C "__eq__" f) (F : FnOk X.prog X.w X.K X.mg X.base CX k f fd ps sp) (hr : Room k X.A) (hb : Binds X.K fd ps []) (hx : Passes CX X E) : OpR X (compareOp .Eq) (rEqO X.K C sp E) := by
  intro pins s σ H x y v u Q I rx ry h
  obtain ⟨a, dx, fs, t, rfl, ha, ty, hn, hs⟩ := h
  obtain rfl : v = Value.ref a := rx
  obtain ⟨mA, O, _⟩ := ins_get I.hok ha
  obtain ⟨od, J, _⟩ := O.look
  obtain ⟨m, hF⟩ := I.fr
  refine PySem.W.cmp_ofEq (PySem.W.cmp_K (op := .Eq) hr.units0 hF I.ok.mod.kin J (ty_look I ry ty) hn M.at_ M.fn ?_)
  exact thn (run_fn (us := [.ref a, u]) (vs := [.ref a, y]) (dvs := []) F hr hb .nil hx I (.cons rfl (.cons ry .nil)) (by rw [List.append_nil]; exact hs)) fun _ _ z => ep_back z
end

/-! ### C.m(e, ..), a static method -/
structure SMet (K : PySem.W.Frag) (C : Addr) (m : Str) (g : Addr) : Prop where
  p : ∃ p, PySem.W.findCls K (.ref C) (.type "type") m = some (.get (.builtin "staticmethod.__get__") (.ref p) .none (.ref C)) ∧ ∃ rest, PySem.W.recIn K p "staticmethod" = some (.ref g :: rest)
  kp : PySem.W.keepIn K (.ref g) = true
def tSMeth (C : Addr) (sp : Sp) (E : XK) (ta : TE) (t : TA) : TE := fun σ H Q => ta σ H fun x H1 => x = .ref C ∧ t σ H1 fun vs H2 => sp vs H2 Q E
theorem pe_smeth {X : Cx} {CX : CXT} {k : Nat} {C g : Addr} {fd : FuncData} {ps : List Str} {sp : Sp} {E : XK} {o e : Expr} {es : List Expr} {m : Str} {pos apos : Pos} {ta : TE} {t : TA} {pl : Sem Bool}
    (he : PE X o ta) (r : ClX.CRead X.K C (.type "type")) (c : SMet X.K C m g) (F : FnOk X.prog X.w X.K X.mg X.base CX k g fd ps sp) (hr : Room k X.A) (hb : Binds X.K fd ps []) (hx : Passes CX X E) (ha : PA X (e :: es) t)
    (hst : starEach (e :: es) X.env = (false, eval e X.env) :: starEach es X.env := by rfl) (hpl : (backTo pos (starEach es X.env)).any (·.1) = false := by rfl)
    (ht : eval (.Call (.Attribute o m apos) (e :: es) [] pos) X.env = (eval o X.env >>= fun ov => standAt apos.atName >>= fun _ => holding [ov] (getMethod ov m pl) >>= fun fg =>
      callWith pos fg.1 fg.2 (backTo pos (starEach (e :: es) X.env)) (backToKw pos (keywordEach [] X.env))) := by rfl) :
    PE X (.Call (.Attribute o m apos) (e :: es) [] pos) (tSMeth C sp E ta t) := by
  refine ⟨fun pins s σ H Q I h => ?_⟩
  refine PySem.W.methodCall_KW (pl := pl) (thn (he.run pins s σ H _ I h) fun u s1 ⟨x, H1, I1, rx, ex, q⟩ => ?_) ht
  subst ex
  obtain rfl : u = Value.ref C := rx
  obtain ⟨p, c1, rest, c2⟩ := c.p
  refine PySem.W.method_cls I1.kIn r.ga (PySem.W.cls_bind I1.kIn r.rd c1 (wpAny_call (PySem.W.sm_get (s := { s1 with toks := s1.toks + 1 }) I1.kIn c2 (PySem.W.handed_on rfl ?_))))
  have I2 := I1.tok (s1.toks + 1)
  refine PySem.W.callWith_K (first := []) (h₀ := X.base) I.ok.mod.kin c.kp (thn (ha.run pos pins _ σ H1 _ I2 q) fun us s3 ⟨vs, H3, I3, rv, q3⟩ => ⟨I3.kIn, ?_⟩) hst hpl
  exact run_fn F hr hb .nil hx I3 rv (by rw [List.append_nil]; exact q3)
end K1

/-! x(lambda: body, 'text'): a def that is handed a lambda and a text. -/
namespace K1
open PySem PySem.Spec PyProof.Rows L2 LamX

/-- x(), in the def that got the lambda; what is raised is wished for at that def's slots -/
theorem pe_act2 {X : Cx} {pins0 : List (Addr × Obj)} {σ0 : L2.St} {H0 : Hp} {s0 : Shared} {CXg : CXT} {Eg : XK} {Ng : List Str} {qg a : Str} {sg scope : Scope} {g f c2 : Addr} {cdg pm ctv : Value} {params : Arguments} {body : Expr} {k i : Nat} {pn : List (Addr × Obj)} {xe : Value → Shared → Prop} {W : WX}
    {tb : XK → TE} {p1 p2 : Pos} (I0 : Inv X pins0 σ0 H0 s0) (L : LamS X.env.scope scope) (hf : s0.heap.get? f = some (PySem.W.kla_obj "<lambda>" (X.env.qual ++ "<lambda>") params body scope (cloFrom X.env.cells scope.names []) pm c2 ctv)) (nf : H0 f = none) (ns : f ∉ frs X.stack)
    (nb : bindArgs (PySem.W.kla_fn "<lambda>" (X.env.qual ++ "<lambda>") params body scope (cloFrom X.env.cells scope.names []) pm (.ref c2) ctv) ⟨[], []⟩ = pure []) (tk : Takes ((cxOf CXg X.prog X.w X.K X.mg X.base Ng qg sg g cdg X.A X.stack s0 H0 Eg).tr pn xe) W)
    (hr : Room (k + 1) (X.A.deeper (envOfC qg sg s0.heap.objs.size g cdg))) (hb : ∀ (A : Around) (outer : List Env) (s : Shared) (H : Hp) (E : XK), Room k (A.deeper (lamEnv X scope s.heap.objs.size f c2)) → PE (lamCx X A outer s H E scope f c2) body (tb E))
    (hN : Ng[i]? = some a) (hv : Vis sg a) (hd : (a == ("__debug__" : Str)) = false) (hcd : (a == ("__classdict__" : Str)) = false) :
    PE ((cxOf CXg X.prog X.w X.K X.mg X.base Ng qg sg g cdg X.A X.stack s0 H0 Eg).tr pn xe) (.Call (.Name a p1) [] [] p2) (fun σ H Q => σ[i]? = some (some (.ref f)) ∧ H c2 = some (CodeO c2 (X.env.qual ++ "<lambda>")) ∧ tb (WE W σ) σ0 H Q) := by
  refine ⟨fun pZ sZ σZ HZ Q IZ ⟨z1, z2, z3⟩ => ?_⟩
  refine wpAny_Call_Name_kw (thn ((pe_var (pos := p1) (i := i) hN hv hd hcd).run pZ sZ σZ HZ (fun v H1 => v = .ref f ∧ H1 = HZ) IZ ⟨.ref f, z1, rfl, rfl⟩) fun u s1 ⟨v, H1, I1, r1, e1, e2⟩ => ?_)
  subst e1 e2
  obtain rfl : u = Value.ref f := r1
  have at1 : s1.heap.get? f = some (PySem.W.kla_obj "<lambda>" (X.env.qual ++ "<lambda>") params body scope (cloFrom X.env.cells scope.names []) pm c2 ctv) := I1.base.keep f _ hf nf ns fun z => nomatch (show f ∈ ([] : List Addr) from z)
  refine PySem.W.callWith_F0 ⟨_, _, _, _, at1⟩ ?_
  have U : Un (frs X.stack) [] H0 H1 s0.heap s1.heap := I1.base
  obtain ⟨⟨oc, cvs, ct, g1, g2, g3⟩, _, _⟩ := I1.hok c2 _ z2
  have run : codeAny (model X.prog X.w) (X.A.deeper (envOfC qg sg s0.heap.objs.size g cdg)) (.call (.ref f) ⟨[], []⟩) (CR (L2.CX X.prog X.w) (envOfC qg sg s0.heap.objs.size g cdg :: X.stack) X.prog X.w H1 s1 Q (WE W σZ)) s1 := by
    refine PySem.W.kla_callFunE hr.depth at1 rfl L.co L.gen rfl ⟨c2, oc, cvs, ct, rfl, g1, g2, g3⟩ (by
      rw [nb]
      refine wpAny_pure (wpAny_newFunctionEnv (fun y hy => (L.own y hy).2) (fun y hy => absurd hy (by simp)) (fun hp hns hsb => ⟨I1.nolimit.fresh _ hsb, ?_⟩) L.kind)
      have kept : ∀ b o, s1.heap.get? b = some o → hp.get? b = some o := fun b o q => hsb.extBut b o (Nat.ne_of_lt (Heap.lt_size q)) (Heap.get?_push_of_some _ q)
      have J : Inv (lamCx X (X.A.deeper (envOfC qg sg s0.heap.objs.size g cdg)) (envOfC qg sg s0.heap.objs.size g cdg :: X.stack) s1 H1 (WE W σZ) scope f c2) [] σ0 H1 { s1 with heap := hp, toks := s1.toks + ([] : List (Str × Value)).length } := lam_start2 I0 L I1.env0 hr.hd U hns kept
      show codeAny _ _ (.expr body (lamEnv X scope s1.heap.objs.size f c2)) _ _
      refine PySem.W.kla_codeExpr (wpAny_mono ((hb _ _ s1 H1 _ (hr.deeper _)).run [] _ _ H1 Q J z3) (fun v s2 ⟨w1, H2, J2, rv, q2⟩ => ⟨w1, H2, J2.os, J2.bare, J2.base, J2.hok, rv, q2⟩) fun _ _ q => q))
  refine wpAny_call (codeAny_mono run fun r s2 hq => ?_)
  rcases r with e | fl
  · exact passAt tk σZ pZ H1 s1 e s2 I1 hq
  · cases fl <;> first | exact I1.after hq | exact False.elim hq
/-- the def that calls what it got, beside a text y -/
def Gives2 (X : Cx) (Ng : List Str) (x : Str) (sg : Scope) (g : Addr) (cdg : Value) (bg : List Stmt) (a : Str) (q : Str) (y : Str) (TT : (XK → Hp → VK → Prop) → Hp → VK → Prop) : Prop :=
  ∀ (f c' : Addr) (s : Shared) (H : Hp) (Q : VK) (tl : XK → Hp → VK → Prop),
    (∀ (W : WX) (pn : List (Addr × Obj)) (xe : Value → Shared → Prop) (p1 p2 : Pos), Takes ((cxOf C8.CX0 X.prog X.w X.K X.mg X.base Ng x sg g cdg X.A X.stack s H C8.E0).tr pn xe) W →
      PE ((cxOf C8.CX0 X.prog X.w X.K X.mg X.base Ng x sg g cdg X.A X.stack s H C8.E0).tr pn xe) (.Call (.Name a p1) [] [] p2) (fun σZ HZ Q => σZ[0]? = some (some (.ref f)) ∧ HZ c' = some (CodeO c' q) ∧ tl (WE W σZ) HZ Q)) →
    H c' = some (CodeO c' q) → TT tl H Q →
    ∃ t, PSs (cxOf C8.CX0 X.prog X.w X.K X.mg X.base Ng x sg g cdg X.A X.stack s H C8.E0).nox bg t ∧ t { nx := fun _ H' => Q .non H', rt := Q } (L2.start Ng [.ref f, .str y]) H
section
variable {X : Cx}
theorem pe_lam2 {T : List (Addr × Str)} {TT : (XK → Hp → VK → Prop) → Hp → VK → Prop} {x a b y : Str} {g c P : Addr} {k j : Nat} {pg : Arguments} {bg : List Stmt} {sg : Scope} {dV kV doc pm cdv ct oc : Value} {an od : Option Addr} {osl : Array (Option Value)} {Ng : List Str}
    {params : Arguments} {body : Expr} {scope : Scope} {t : XK → TE} {p lpos cpos pos : Pos} (hg : Gl X x) (hm : X.mg x = some (.ref g)) (hk : PySem.W.keepIn X.K (.ref g) = true)
    (lk : X.K.lookup g = some ⟨oc, od, .func (PySem.W.fnOf x x pg bg sg dV kV doc pm an cdv ct), osl⟩) (hcg : PySem.W.codeIn X.K cdv x = true) (hb : L2.Binds X.K (PySem.W.fnOf x x pg bg sg dV kV doc pm an cdv ct) [a, b] []) (Sg : FnScope Ng [a, b] sg) (hNg : Ng[0]? = some a) (hva : Vis sg a)
    (hG : Gives2 X Ng x sg g cdv bg a (X.env.qual ++ "<lambda>") y TT)
    (TB : TabB X.base X.mg c P) (hcode : X.env.code = .ref c) (hmT : (P, X.env.qual ++ "<lambda>") ∈ T) (hu : ∀ p ∈ T, p.1 = P → p.2 = X.env.qual ++ "<lambda>") (hr : Room (k + 2) X.A) (L : LamS X.env.scope scope) (hdef : defaultsOf params X.env = ([], []))
    (hbind : ∀ (q : Str) (cl : List (Str × Addr)) (pm cv ctv : Value), bindArgs (PySem.W.kla_fn "<lambda>" q params body scope cl pm cv ctv) ⟨[], []⟩ = pure [])
    (hbody : ∀ (A : Around) (outer : List Env) (s : Shared) (H : Hp) (E : XK) (f c' : Addr), Room k (A.deeper (lamEnv X scope s.heap.objs.size f c')) → PE (lamCx X A outer s H E scope f c') body (t E))
    (hdb : (x == ("__debug__" : Str)) = false := by decide) (hd : (a == ("__debug__" : Str)) = false := by decide) (hcd : (a == ("__classdict__" : Str)) = false := by decide) :
    PE X (.Call (.Name x p) [.Lambda params body scope lpos, .Constant (.str y) j cpos] [] pos) (tLam T TT t) := by
  refine ⟨fun pins s σ H Q I ⟨hT, h⟩ => ?_⟩
  refine wpAny_Call_Name_kw (ld_glob I hg hm ?_ hdb)
  refine PySem.W.callWith_K (h₀ := X.base) I.ok.mod.kin hk ?_ (by rfl) (by rfl)
  show wpAny _ _ (spliced ((false, eval (.Lambda params body scope lpos) X.env) :: (backTo pos (starEach [.Constant (.str y) j cpos] X.env)))) _ _ s
  refine Calls.spliced_cons (lam_make2 I TB hcode hmT hu hT hdef (L.has I.ok) fun f c' pm' ctv H1 s' I1 eN T1 hf hfn hfr hco => ?_)
  refine Calls.spliced_cons (Calls.Constant_str (k := j) (pos := cpos) ?_)
  have I2 : Inv X pins σ H1 { s' with toks := s'.toks + 1 } := I1.tok _
  refine Calls.spliced_nil ⟨I2.kIn, ?_⟩
  have rc : codeAny (model X.prog X.w) X.A (.call (.ref g) ⟨[.ref f, .str y s'.toks], []⟩) (CR C8.CX0 X.stack X.prog X.w H1 { s' with toks := s'.toks + 1 } Q C8.E0) { s' with toks := s'.toks + 1 } := by
    refine run_ofS (N := Ng) (ps := [a, b]) (us := [.ref f, .str y s'.toks]) (vs := [.ref f, .str y]) lk hcg Sg hr I2.env0 (hb _ [.ref f, .str y s'.toks] I2.kIn rfl) (.cons rfl (.cons ⟨_, rfl⟩ .nil)) rfl fun hr2 => ?_
    obtain ⟨t', ht', hq'⟩ := hG f c' _ H1 Q (fun E H' Q' => t E σ H' Q')
      (fun W pn xe p1 p2 tk => pe_act2 (i := 0) I2 L hf hfn hfr (hbind _ _ _ _ _) tk hr2 (fun A outer s H E hr3 => hbody A outer s H E f c' hr3) hNg hva hd hcd) hco (h H1 eN T1)
    exact ⟨t', ht'.nox, hq'⟩
  refine wpAny_call (codeAny_mono rc fun r s2 hq => ?_)
  cases r with
  | error e => exact (show False from hq).elim
  | ok fl => cases fl <;> first | exact I2.after hq | exact (show False from hq).elim
end
end K1

/-! The text by places; what the defs need of the module. -/
namespace K1
open PySem PySem.Spec PyProof.Rows L2 LamX

/-- a def of the text, no defaults -/
abbrev DefAt (K : PySem.W.Frag) (x qual : Str) (st : Stmt) (f : Addr) (fd : FuncData) : Prop := FunD K x qual (defArgs st) (defBody st) (defScope st) [] [] f fd
/-- the built-in names that the module has not stored; the imported one -/
structure Glob (mg : Str → Option Value) : Prop where
  abs : mg "abs" = none
  int : mg "int" = none
  len : mg "len" = none
  str : mg "str" = none
  bool : mg "bool" = none
  repr : mg "repr" = none
  isi : mg "isinstance" = none
  range : mg "range" = none
  all : mg "all" = none
  lst : mg "list" = none
  tup : mg "tuple" = none
  gcd : mg "gcd" = some (.builtin "math.gcd")

/-- what the written part says of BadRatio, for it to be raised, caught, read -/
structure BadF (K : PySem.W.Frag) (mg : Str → Option Value) (C : Addr) : Prop where
  g : mg "BadRatio" = some (.ref C)
  x : XfC K C
  no : PySem.W.findIn K (.ref C) "part" = some none
  te : PySem.W.exmOne K (.ref C) (.ref C) = some true

/-! ### _law_refused -/
theorem scRefused : FnScope ["_law_ask", "_law_part", "error"] ["_law_ask", "_law_part"] (defScope sRefused) := ⟨rfl, rfl, rfl, by decide +kernel, rfl, by decide +kernel, by decide +kernel⟩
/-- the lambda is to raise a BadRatio of that part; then True comes back -/
def TTref (C : Addr) (y : Str) : (XK → Hp → VK → Prop) → Hp → VK → Prop := fun tl H Q =>
  ∀ (E : XK) (Q0 : VK), (∀ (dd : Addr) (fs : List (Str × V)) (H' : Hp), H' dd = some (.xd fs) → fs.lookup ("part" : Str) = some (V.str y) → Q (.bl true) H' → E (.ref C) (some dd) H') → tl E H Q0
theorem refused_gives {X : Cx} {g C : Addr} {cdg : Value} {q y : Str} (B : BadF X.K X.mg C) :
    Gives2 X ["_law_ask", "_law_part", "error"] "_law_refused" (defScope sRefused) g cdg (defBody sRefused) "_law_ask" q y (TTref C y) := by
  intro f c' s H Q tl act hc h
  refine ⟨_, pss_cons (ps_try_as (X := (cxOf C8.CX0 X.prog X.w X.K X.mg X.base ["_law_ask", "_law_part", "error"] "_law_refused" (defScope sRefused) g cdg X.A X.stack s H C8.E0).nox) (i := 2) (c := .ref C)
      rfl rfl scRefused.nd rfl rfl ⟨rfl, by decide, .inl B.g⟩ LamX.takes0 (fun W pn xe tk _ => pss_one (ps_expr (act W pn xe _ _ tk)))
      (fun a oe cls d pn hz hf => pss_one (ps_ret (pe_cmpR op_eq (pe_xf B.x B.no hz hf (pv 2)) (pv 1) (nomark _))))) (pss_one (ps_ret pe_bl)), ?_⟩
  refine ⟨rfl, hc, h _ _ fun dd fs H' e1 e2 e3 => ?_⟩
  refine ⟨true, B.te, fun _ a na => ?_, fun z => Bool.noConfusion z⟩
  refine ⟨_, rfl, rfl, rfl, dd, fs, _, rfl, e1, e2, _, rfl, rfl, ?_⟩
  rw [decide_eq_true rfl]
  exact e3
end K1

/-! Ratios in lowest terms: the mathematics. -/
namespace K1

/-- the common divisor, with the bottom's sign -/
def com (t b : Int) : Int := if b > 0 then (Nat.gcd t.natAbs b.natAbs : Int) else -(Nat.gcd t.natAbs b.natAbs : Int)
def rT (t b : Int) : Int := t.fdiv (com t b)
def rB (t b : Int) : Int := b.fdiv (com t b)

theorem gcd_pos {t b : Int} (h : b ≠ 0) : 0 < (Nat.gcd t.natAbs b.natAbs : Int) := by
  have := Nat.gcd_pos_of_pos_right t.natAbs (show 0 < b.natAbs by omega)
  omega
theorem com_ne {t b : Int} (h : b ≠ 0) : com t b ≠ 0 := by
  have := gcd_pos (t := t) h
  unfold com
  split <;> omega
theorem com_dvd_t (t b : Int) : com t b ∣ t := by
  have h : (Nat.gcd t.natAbs b.natAbs : Int) ∣ t := Int.ofNat_dvd_left.mpr (Nat.gcd_dvd_left _ _)
  unfold com
  split
  · exact h
  · exact Int.neg_dvd.mpr h
theorem com_dvd_b (t b : Int) : com t b ∣ b := by
  have h : (Nat.gcd t.natAbs b.natAbs : Int) ∣ b := Int.ofNat_dvd_left.mpr (Nat.gcd_dvd_right _ _)
  unfold com
  split
  · exact h
  · exact Int.neg_dvd.mpr h
theorem fdiv_mul {a c : Int} (h : c ∣ a) : a.fdiv c * c = a := by
  obtain ⟨k, rfl⟩ := h
  by_cases hc : c = 0
  · subst hc; simp
  · rw [Int.mul_fdiv_cancel_left _ hc, Int.mul_comm]
theorem rT_mul (t b : Int) : rT t b * com t b = t := fdiv_mul (com_dvd_t t b)
theorem rB_mul (t b : Int) : rB t b * com t b = b := fdiv_mul (com_dvd_b t b)
theorem rB_pos {t b : Int} (h : b ≠ 0) : 0 < rB t b := by
  have e := rB_mul t b
  have g := gcd_pos (t := t) h
  unfold com at e
  by_cases hb : b > 0
  · rw [if_pos hb] at e
    exact Int.pos_of_mul_pos_left (by omega : 0 < rB t b * _) g |> fun z => z
  · rw [if_neg hb, Int.mul_neg] at e
    have z : 0 < rB t b * (Nat.gcd t.natAbs b.natAbs : Int) := by omega
    exact Int.pos_of_mul_pos_left z g

theorem com_abs (t b : Int) : (com t b).natAbs = Nat.gcd t.natAbs b.natAbs := by
  unfold com
  split
  · exact Int.natAbs_natCast _
  · rw [Int.natAbs_neg, Int.natAbs_natCast]
theorem red_cop {t b : Int} (h : b ≠ 0) : Nat.gcd (rT t b).natAbs (rB t b).natAbs = 1 := by
  have e1 := congrArg Int.natAbs (rT_mul t b)
  have e2 := congrArg Int.natAbs (rB_mul t b)
  rw [Int.natAbs_mul, com_abs] at e1 e2
  have g := Nat.gcd_pos_of_pos_right t.natAbs (show 0 < b.natAbs by omega)
  have z : Nat.gcd (rT t b).natAbs (rB t b).natAbs * Nat.gcd t.natAbs b.natAbs = 1 * Nat.gcd t.natAbs b.natAbs := by
    rw [← Nat.gcd_mul_right, e1, e2, Nat.one_mul]
  exact Nat.eq_of_mul_eq_mul_right g z
theorem low_unique {p q p' q' : Int} (hq : 0 < q) (hq' : 0 < q') (h : Nat.gcd p.natAbs q.natAbs = 1) (h' : Nat.gcd p'.natAbs q'.natAbs = 1) (e : p * q' = p' * q) : p = p' ∧ q = q' := by
  have n := congrArg Int.natAbs e
  rw [Int.natAbs_mul, Int.natAbs_mul] at n
  have d1 : q.natAbs ∣ q'.natAbs := Nat.Coprime.dvd_of_dvd_mul_left (k := q.natAbs) (m := p.natAbs) (show Nat.gcd q.natAbs p.natAbs = 1 by rw [Nat.gcd_comm]; exact h) ⟨p'.natAbs, by rw [n, Nat.mul_comm]⟩
  have d2 : q'.natAbs ∣ q.natAbs := Nat.Coprime.dvd_of_dvd_mul_left (k := q'.natAbs) (m := p'.natAbs) (show Nat.gcd q'.natAbs p'.natAbs = 1 by rw [Nat.gcd_comm]; exact h') ⟨p.natAbs, by rw [← n, Nat.mul_comm]⟩
  have eq : q = q' := by
    have := Nat.dvd_antisymm d1 d2
    omega
  subst eq
  exact ⟨Int.eq_of_mul_eq_mul_right (by omega) e, rfl⟩
/-- equal by the cross: told alike -/
theorem red_eq {t b t' b' : Int} (h : b ≠ 0) (h' : b' ≠ 0) (e : t * b' = t' * b) : rT t b = rT t' b' ∧ rB t b = rB t' b' := by
  refine low_unique (rB_pos h) (rB_pos h') (red_cop h) (red_cop h') ?_
  have c1 := com_ne (t := t) h
  have c2 := com_ne (t := t') h'
  have e1 := rT_mul t b
  have e2 := rB_mul t b
  have e3 := rT_mul t' b'
  have e4 := rB_mul t' b'
  have z : (rT t b * rB t' b') * (com t b * com t' b') = (rT t' b' * rB t b) * (com t b * com t' b') := by
    have l : (rT t b * rB t' b') * (com t b * com t' b') = (rT t b * com t b) * (rB t' b' * com t' b') := by ac_rfl
    have r : (rT t' b' * rB t b) * (com t b * com t' b') = (rT t' b' * com t' b') * (rB t b * com t b) := by ac_rfl
    rw [l, r, e1, e2, e3, e4, e]
  exact Int.eq_of_mul_eq_mul_right (Int.mul_ne_zero c1 c2) z
theorem red_low {t b : Int} (hb : 0 < b) (h : Nat.gcd t.natAbs b.natAbs = 1) : rT t b = t ∧ rB t b = b := by
  have c : com t b = 1 := by unfold com; rw [if_pos hb, h]; rfl
  unfold rT rB
  rw [c]
  exact ⟨Int.fdiv_one _, Int.fdiv_one _⟩
theorem red_one (t : Int) : rT t 1 = t ∧ rB t 1 = 1 := red_low (by decide) (by simp)
theorem cross {t b : Int} (h : b ≠ 0) : rT t b * b = t * rB t b := by
  have e1 := rT_mul t b
  have e2 := rB_mul t b
  have : rT t b * (rB t b * com t b) = rT t b * com t b * rB t b := by ac_rfl
  rw [e1, e2] at this
  exact this
theorem rT_zero {t b : Int} (h : b ≠ 0) : rT t b = 0 ↔ t = 0 := by
  have e := rT_mul t b
  constructor
  · intro z; rw [z] at e; simpa using e.symm
  · intro z; subst z; unfold rT; exact Int.zero_fdiv _
/-! bounds -/
theorem natAbs_le_mul {p c : Int} (hc : c ≠ 0) : p.natAbs ≤ (p * c).natAbs := by
  rw [Int.natAbs_mul]
  exact Nat.le_mul_of_pos_right _ (by omega)
theorem rT_le {t b : Int} (h : b ≠ 0) : (rT t b).natAbs ≤ t.natAbs := by
  have := natAbs_le_mul (p := rT t b) (com_ne (t := t) h)
  rwa [rT_mul] at this
theorem rB_le {t b : Int} (h : b ≠ 0) : (rB t b).natAbs ≤ b.natAbs := by
  have := natAbs_le_mul (p := rB t b) (com_ne (t := t) h)
  rwa [rB_mul] at this
/-! Euclid's loop, by the floor's rest -/
theorem euclid_step (a b : Int) : Int.gcd b (a.fmod b) = Int.gcd a b := by
  rw [Int.fmod_def, Int.gcd_sub_mul_left_right, Int.gcd_comm]
theorem fmod_small {a b : Int} (h : b ≠ 0) : (a.fmod b).natAbs < b.natAbs := by
  by_cases hb : 0 < b
  · have h1 := Int.fmod_nonneg_of_pos a hb
    have h2 := Int.fmod_lt_of_pos a hb
    omega
  · have e : a.fmod b = -((-a).fmod (-b)) := by
      have z := Int.neg_fmod_neg (a := a) (b := b)
      omega
    have h1 := Int.fmod_nonneg_of_pos (-a) (show 0 < -b by omega)
    have h2 := Int.fmod_lt_of_pos (-a) (show 0 < -b by omega)
    omega

section
variable {a0 a1 b0 b1 : Int} (ha : a1 ≠ 0) (hb : b1 ≠ 0)
include ha hb
theorem mul_ne : a1 * b1 ≠ 0 := Int.mul_ne_zero ha hb
theorem qq_ne : rB a0 a1 * rB b0 b1 ≠ 0 := Int.mul_ne_zero (by have := rB_pos (t := a0) ha; omega) (by have := rB_pos (t := b0) hb; omega)
theorem sum_red : rT (rT a0 a1 * rB b0 b1 + rT b0 b1 * rB a0 a1) (rB a0 a1 * rB b0 b1) = rT (a0 * b1 + b0 * a1) (a1 * b1) ∧ rB (rT a0 a1 * rB b0 b1 + rT b0 b1 * rB a0 a1) (rB a0 a1 * rB b0 b1) = rB (a0 * b1 + b0 * a1) (a1 * b1) := by
  refine red_eq (qq_ne ha hb) (mul_ne ha hb) ?_
  have x := cross (t := a0) ha
  have y := cross (t := b0) hb
  have l : (rT a0 a1 * rB b0 b1 + rT b0 b1 * rB a0 a1) * (a1 * b1) = (rT a0 a1 * a1) * (rB b0 b1 * b1) + (rT b0 b1 * b1) * (rB a0 a1 * a1) := by rw [Int.add_mul]; congr 1 <;> ac_rfl
  rw [l, x, y, Int.add_mul]
  congr 1 <;> ac_rfl
theorem dif_red : rT (rT a0 a1 * rB b0 b1 - rT b0 b1 * rB a0 a1) (rB a0 a1 * rB b0 b1) = rT (a0 * b1 - b0 * a1) (a1 * b1) ∧ rB (rT a0 a1 * rB b0 b1 - rT b0 b1 * rB a0 a1) (rB a0 a1 * rB b0 b1) = rB (a0 * b1 - b0 * a1) (a1 * b1) := by
  refine red_eq (qq_ne ha hb) (mul_ne ha hb) ?_
  have x := cross (t := a0) ha
  have y := cross (t := b0) hb
  have l : (rT a0 a1 * rB b0 b1 - rT b0 b1 * rB a0 a1) * (a1 * b1) = (rT a0 a1 * a1) * (rB b0 b1 * b1) - (rT b0 b1 * b1) * (rB a0 a1 * a1) := by rw [Int.sub_mul]; congr 1 <;> ac_rfl
  rw [l, x, y, Int.sub_mul]
  congr 1 <;> ac_rfl
theorem mul_red : rT (rT a0 a1 * rT b0 b1) (rB a0 a1 * rB b0 b1) = rT (a0 * b0) (a1 * b1) ∧ rB (rT a0 a1 * rT b0 b1) (rB a0 a1 * rB b0 b1) = rB (a0 * b0) (a1 * b1) := by
  refine red_eq (qq_ne ha hb) (mul_ne ha hb) ?_
  have x := cross (t := a0) ha
  have y := cross (t := b0) hb
  have l : rT a0 a1 * rT b0 b1 * (a1 * b1) = (rT a0 a1 * a1) * (rT b0 b1 * b1) := by ac_rfl
  rw [l, x, y]
  ac_rfl
theorem over_red (h0 : b0 ≠ 0) : rT (rT a0 a1 * rB b0 b1) (rB a0 a1 * rT b0 b1) = rT (a0 * b1) (a1 * b0) ∧ rB (rT a0 a1 * rB b0 b1) (rB a0 a1 * rT b0 b1) = rB (a0 * b1) (a1 * b0) := by
  have p2 : rT b0 b1 ≠ 0 := fun z => h0 ((rT_zero hb).mp z)
  refine red_eq (Int.mul_ne_zero (by have := rB_pos (t := a0) ha; omega) p2) (Int.mul_ne_zero ha h0) ?_
  have x := cross (t := a0) ha
  have y := cross (t := b0) hb
  have l : rT a0 a1 * rB b0 b1 * (a1 * b0) = (rT a0 a1 * a1) * (b0 * rB b0 b1) := by ac_rfl
  rw [l, x, ← y]
  ac_rfl
/-- how the two stand to each other -/
theorem cmp_red : (rT a0 a1 * rB b0 b1 - rT b0 b1 * rB a0 a1) * ((a1 * b1) * (a1 * b1)) = ((a0 * b1 - b0 * a1) * (a1 * b1)) * (rB a0 a1 * rB b0 b1) := by
  have x := cross (t := a0) ha
  have y := cross (t := b0) hb
  have l : (rT a0 a1 * rB b0 b1 - rT b0 b1 * rB a0 a1) * (a1 * b1) = (a0 * b1 - b0 * a1) * (rB a0 a1 * rB b0 b1) := by
    have l : (rT a0 a1 * rB b0 b1 - rT b0 b1 * rB a0 a1) * (a1 * b1) = (rT a0 a1 * a1) * (rB b0 b1 * b1) - (rT b0 b1 * b1) * (rB a0 a1 * a1) := by rw [Int.sub_mul]; congr 1 <;> ac_rfl
    rw [l, x, y, Int.sub_mul]
    congr 1 <;> ac_rfl
  rw [← Int.mul_assoc, l]
  ac_rfl
theorem qq_pos : 0 < rB a0 a1 * rB b0 b1 := Int.mul_pos (rB_pos ha) (rB_pos hb)
theorem sq_pos : 0 < (a1 * b1) * (a1 * b1) := by
  have h := mul_ne ha hb
  rcases Int.lt_or_gt_of_ne h with z | z
  · exact Int.mul_pos_of_neg_of_neg z z
  · exact Int.mul_pos z z
theorem cmp_zero : rT a0 a1 * rB b0 b1 = rT b0 b1 * rB a0 a1 ↔ (a0 * b1 - b0 * a1) * (a1 * b1) = 0 := by
  have e := cmp_red (a0 := a0) (b0 := b0) ha hb
  have p := qq_pos (a0 := a0) (b0 := b0) ha hb
  have s := sq_pos ha hb
  constructor
  · intro z
    rw [z, Int.sub_self, Int.zero_mul] at e
    rcases Int.mul_eq_zero.mp e.symm with q | q
    · exact q
    · omega
  · intro z
    rw [z, Int.zero_mul] at e
    rcases Int.mul_eq_zero.mp e with q | q
    · omega
    · omega
theorem cmp_lt : rT a0 a1 * rB b0 b1 < rT b0 b1 * rB a0 a1 ↔ (a0 * b1 - b0 * a1) * (a1 * b1) < 0 := by
  have e := cmp_red (a0 := a0) (b0 := b0) ha hb
  have p := qq_pos (a0 := a0) (b0 := b0) ha hb
  have s := sq_pos ha hb
  have k : ∀ {x y : Int}, 0 < y → (x * y < 0 ↔ x < 0) := fun {x y} hy => by
    constructor
    · intro h
      rcases Int.lt_or_le x 0 with q | q
      · exact q
      · have := Int.mul_nonneg q (Int.le_of_lt hy); omega
    · intro h; exact Int.mul_neg_of_neg_of_pos h hy
  have z := k (x := rT a0 a1 * rB b0 b1 - rT b0 b1 * rB a0 a1) s
  rw [e, k p] at z
  omega
end
theorem neg_red {a0 a1 : Int} (ha : a1 ≠ 0) : rT (-rT a0 a1) (rB a0 a1) = rT (-a0) a1 ∧ rB (-rT a0 a1) (rB a0 a1) = rB (-a0) a1 := by
  refine red_eq (by have := rB_pos (t := a0) ha; omega) ha ?_
  rw [Int.neg_mul, Int.neg_mul, cross ha]
theorem abs_red {a0 a1 : Int} (ha : a1 ≠ 0) : rT ((rT a0 a1).natAbs : Int) (rB a0 a1) = rT (a0.natAbs : Int) (a1.natAbs : Int) ∧ rB ((rT a0 a1).natAbs : Int) (rB a0 a1) = rB (a0.natAbs : Int) (a1.natAbs : Int) := by
  have q := rB_pos (t := a0) ha
  refine red_eq (by omega) (by omega) ?_
  have e := congrArg Int.natAbs (cross (t := a0) ha)
  rw [Int.natAbs_mul, Int.natAbs_mul] at e
  have z : ((rB a0 a1).natAbs : Int) = rB a0 a1 := by omega
  have e2 := congrArg (fun n : Nat => (n : Int)) e
  simp only [Int.natCast_mul] at e2
  rw [z] at e2
  exact e2
end K1

/-! Values that are ratios and values that are none; the makings. -/
namespace K1
open PySem PySem.Spec PyProof.Rows L2 LamX

/-! ### numbers of so many bits -/
def Sm (k : Nat) (n : Int) : Prop := n.natAbs < 2 ^ k
theorem Sm.mono {j k : Nat} {n : Int} (h : Sm j n) (hk : j ≤ k) : Sm k n := Nat.lt_of_lt_of_le h (Nat.pow_le_pow_right (by decide) hk)
theorem Sm.mul {j k : Nat} {m n : Int} (h : Sm j m) (h' : Sm k n) : Sm (j + k) (m * n) := wide_lt h h'
theorem Sm.add {k : Nat} {m n : Int} (h : Sm k m) (h' : Sm k n) : Sm (k + 1) (m + n) := by
  unfold Sm at *
  have : 2 ^ (k + 1) = 2 ^ k + 2 ^ k := by rw [Nat.pow_succ]; omega
  omega
theorem Sm.sub {k : Nat} {m n : Int} (h : Sm k m) (h' : Sm k n) : Sm (k + 1) (m - n) := by
  unfold Sm at *
  have : 2 ^ (k + 1) = 2 ^ k + 2 ^ k := by rw [Nat.pow_succ]; omega
  omega
theorem Sm.neg {k : Nat} {m : Int} (h : Sm k m) : Sm k (-m) := by unfold Sm at *; rw [Int.natAbs_neg]; exact h
theorem Sm.rT {k : Nat} {t b : Int} (h : Sm k t) (hb : b ≠ 0) : Sm k (rT t b) := Nat.lt_of_le_of_lt (rT_le hb) h
theorem Sm.rB {k : Nat} {t b : Int} (h : Sm k b) (hb : b ≠ 0) : Sm k (rB t b) := Nat.lt_of_le_of_lt (rB_le hb) h
theorem Sm.one {k : Nat} (h : 0 < k) : Sm k 1 := by
  unfold Sm
  exact Nat.one_lt_two_pow (by omega)
theorem Sm.mulW {j k : Nat} {m n : Int} (h : Sm j m) (h' : Sm k n) (hj : j + k ≤ 999990 := by omega) : CMulW m n :=
  wide_mul (a := j + 1) (b := k + 1) (h.mono (by omega)) (h'.mono (by omega)) (by omega) (by omega) (by omega)
/-- // of ints by any divisor of less than 9000 bits, below 0 too -/
def CDivZ (_ j : Int) : Prop := j ≠ 0 ∧ j.natAbs.log2 < 9000
theorem op_fdivZ {X : Cx} : OpR X (binaryOp .FloorDiv) (rI CDivZ fun i j => .int (i.fdiv j)) := opI fun i j _ _ _ _ _ hc q => floordiv_int hc.1 q (.inl (PyProof.noPylong_of_log2 hc.2))
theorem Sm.log {k : Nat} {n : Int} (h : Sm k n) (h0 : 0 < k) : n.natAbs.log2 < k := PySem.Flt.log2_lt_of h0 h

/-! ### what stands where a ratio may stand -/
theorem tb_ne : ¬ (("top" : Str) = "bottom") := by decide +kernel
/-- its attributes, as __init__ stores them -/
def fsR (t b : Int) : List (Str × V) := putF "bottom" (.int b) (putF "top" (.int t) [])
theorem fsR_top (t b : Int) : (fsR t b).lookup ("top" : Str) = some (.int t) := by unfold fsR; rw [lookup_putF, if_neg tb_ne, lookup_putF, if_pos rfl]
theorem fsR_bottom (t b : Int) : (fsR t b).lookup ("bottom" : Str) = some (.int b) := by unfold fsR; rw [lookup_putF, if_pos rfl]
def RatAt (C : Addr) (H : Hp) (a : Addr) (t b : Int) : Prop := ∃ dx, H a = some (.ins C dx (fsR t b))
theorem RatAt.same {C : Addr} {H H' : Hp} {a : Addr} {t b : Int} (s : Same H H') (h : RatAt C H a t b) : RatAt C H' a t b := let ⟨dx, h⟩ := h; ⟨dx, s _ _ h⟩
/-- a Ratio of t over b, or the integer t -/
def RatV (C : Addr) (H : Hp) (v : V) (t b : Int) : Prop := (∃ a, v = .ref a ∧ RatAt C H a t b) ∨ (v = .int t ∧ b = 1)
theorem RatV.same {C : Addr} {H H' : Hp} {v : V} {t b : Int} (s : Same H H') (h : RatV C H v t b) : RatV C H' v t b := by
  rcases h with ⟨a, e, h⟩ | h
  · exact .inl ⟨a, e, h.same s⟩
  · exact .inr h
/-- no ratio: None, a truth, a text, a list, a tuple, a dict -/
inductive Odd (H : Hp) : V → String → Prop
  | non : Odd H .non "NoneType"
  | bl (b : Bool) : Odd H (.bl b) "bool"
  | str (x : Str) : Odd H (.str x) "str"
  | lst {a : Addr} {xs : List V} (h : H a = some (.lst xs)) : Odd H (.ref a) "list"
  | tup {a : Addr} {xs : List V} (h : H a = some (.tup xs)) : Odd H (.ref a) "tuple"
  | dK {a : Addr} {kvs : List (Key × V)} (h : H a = some (.dK kvs)) : Odd H (.ref a) "dict"
theorem Odd.ty {K : PySem.W.Frag} {H : Hp} {v : V} {T : String} (h : Odd H v T) : TyOf K H v (.type T) := by
  cases h with
  | non => exact .non
  | bl b => exact .bl b
  | str x => exact .str x
  | lst h => exact .lst h
  | tup h => exact .tup h
  | dK h => exact .dK h
theorem Odd.same {H H' : Hp} {v : V} {T : String} (s : Same H H') (h : Odd H v T) : Odd H' v T := by
  cases h with
  | non => exact .non
  | bl b => exact .bl b
  | str x => exact .str x
  | lst h => exact .lst (s _ _ h)
  | tup h => exact .tup (s _ _ h)
  | dK h => exact .dK (s _ _ h)
theorem Odd.mem {H : Hp} {v : V} {T : String} (h : Odd H v T) : T ∈ kinds6 := by cases h <;> simp [kinds6]

/-- what the written part says of the class of ratios -/
structure RatF (K : PySem.W.Frag) (C : Addr) : Prop where
  cl : Cls K C
  nT : NoAttr K C "top"
  nB : NoAttr K C "bottom"
  ha : PySem.W.findIn K (.ref C) "__class__" = some (some (.builtin "object.__class__"))
  hn : PySem.W.specialIn K (.builtin "object.__class__") "__get__" = some (some (.builtin "getset_descriptor.__get__"))
  ht : PySem.W.takesIn K (.builtin "object.__class__") = some true
  hm : PySem.W.mroIn K C (.type "object") = some true
  me : PySem.W.kitOne K (.ref C) (.ref C) = some true
  noI : PySem.W.kitOne K (.ref C) (.type "int") = some false
  noB : PySem.W.kitOne K (.ref C) (.type "bool") = some false
  int : PySem.W.kitOne K (.type "int") (.ref C) = some false
  odd : ∀ T ∈ kinds6, PySem.W.kitOne K (.type T) (.ref C) = some false
theorem RatAt.ty {K : PySem.W.Frag} {C : Addr} {H : Hp} {a : Addr} {t b : Int} (F : RatF K C) (h : RatAt C H a t b) : TyOf K H (.ref a) (.ref C) := let ⟨_, h⟩ := h; .ins h F.cl F.ha F.hn F.ht F.hm
theorem odd_int {K : PySem.W.Frag} {T : String} (h : T ∈ kinds6) : ∃ c, PySem.W.kitOne K (.type T) (.type "int") = some c ∧ (c = true → PySem.W.kitOne K (.type T) (.type "bool") = some true) := by
  simp only [kinds6, List.mem_cons, List.not_mem_nil, or_false] at h
  rcases h with rfl | rfl | rfl | rfl | rfl | rfl
  · exact ⟨false, kit_ty (by decide +kernel), fun z => nomatch z⟩
  · exact ⟨true, kit_ty (by decide +kernel), fun _ => kit_ty (by decide +kernel)⟩
  · exact ⟨false, kit_ty (by decide +kernel), fun z => nomatch z⟩
  · exact ⟨false, kit_ty (by decide +kernel), fun z => nomatch z⟩
  · exact ⟨false, kit_ty (by decide +kernel), fun z => nomatch z⟩
  · exact ⟨false, kit_ty (by decide +kernel), fun z => nomatch z⟩

/-! ### is_integer, of any value whose type is told -/
def spIsInt (K : PySem.W.Frag) : Sp := fun vs H Q _ => ∃ (v : V) (t : Value) (c d : Bool), vs = [v] ∧ TyOf K H v t ∧ PySem.W.kitOne K t (.type "int") = some c ∧ (c = true → PySem.W.kitOne K t (.type "bool") = some d) ∧ Q (.bl (c && !d)) H
section
variable {P : Program} {w : World} {K : PySem.W.Frag} {mg : Str → Option Value} {base : Heap} {f : Addr} {fd : FuncData}
theorem scIsInt : FnScope ["value"] ["value"] (defScope sIsInt) := ⟨rfl, rfl, rfl, by decide +kernel, rfl, by decide +kernel, by decide +kernel⟩
theorem ok_isInt (G : Glob mg) (F : DefAt K "is_integer" "is_integer" sIsInt f fd) : FnOk P w K mg base CX0 1 f fd ["value"] (spIsInt K) := by
  refine F.ok scIsInt (fun vs H Q E ⟨v, _, _, _, e, _⟩ => by rw [e]; rfl) (fun cdv A outer s H vs Q E hr ⟨v, t, c, d, e, ty, k1, k2, q⟩ => ?_)
  subst e
  refine ⟨_, (pss_one (ps_ret (pe_and (pe_callB call_isi (by rfl) G.isi (by decide +kernel) (pa_cons (pv 0) (pa_cons (pe_bltn (by rfl) G.int (by decide +kernel) (v := .ty "int") rfl) pa_nil)))
      (pe_one (pe_not (pe_callB call_isi (by rfl) G.isi (by decide +kernel) (pa_cons (pv 0) (pa_cons (pe_bltn (by rfl) G.bool (by decide +kernel) (v := .ty "bool") rfl) pa_nil)))))))).nox, ?_⟩
  refine ⟨_, rfl, _, _, _, _, _, rfl, .ty "int", .base ty, k1, c, rfl, ?_⟩
  cases c with
  | false => exact iteF q
  | true => exact iteT ⟨_, rfl, _, _, _, _, _, rfl, .ty "bool", .base ty, k2 rfl, d, rfl, q⟩
end
end K1

/-! raise BadRatio('..'). -/
namespace K1
open PySem PySem.Spec PyProof.Rows L2 LamX

/-- self.part = part, in the making -/
def spBad (C : Addr) : Sp := fun vs H Q _ => ∃ (a : Addr) (v : V), vs = [.ref a, v] ∧ H a = some (exo a C none) ∧ ∀ dx, H dx = none → dx ≠ a → Q .non (upd (upd H dx (exd dx [("part", v)])) a (exo a C (some dx)))
section
variable {P : Program} {w : World} {K : PySem.W.Frag} {mg : Str → Option Value} {base : Heap} {f C : Addr} {fd : FuncData}
theorem scBad : FnScope ["self", "part"] ["self", "part"] (defScope sBadInit) := ⟨rfl, rfl, rfl, by decide +kernel, rfl, by decide +kernel, by decide +kernel⟩
theorem ok_bad (F : DefAt K "__init__" "BadRatio.__init__" sBadInit f fd) (T : OexC K C) (no : PySem.W.findIn K (.ref C) "part" = some none) : FnOk P w K mg base CX0 1 f fd ["self", "part"] (spBad C) := by
  refine F.ok scBad (fun vs H Q E ⟨a, v, e, _⟩ => by rw [e]; rfl) (fun cdv A outer s H vs Q E hr ⟨a, v, e, ha, q⟩ => ?_)
  subst e
  refine ⟨_, (pss_one (ps_ost (pv 0) (pv 1) rfl)).nox, ?_⟩
  exact ⟨_, rfl, _, rfl, a, C, rfl, T, no, .inl ⟨ha, q⟩⟩
end
/-- all that a raise of BadRatio needs -/
structure BadR (P : Program) (w : World) (K : PySem.W.Frag) (mg : Str → Option Value) (base : Heap) (C : Addr) : Prop extends BadF K mg C where
  o : OexC K C
  i : ∃ fI fd, PySem.W.findIn K (.ref C) "__init__" = some (some (.ref fI)) ∧ PySem.W.typeIn K (.ref fI) = some (.type "function") ∧ DefAt K "__init__" "BadRatio.__init__" sBadInit fI fd
/-- behind it: what stood stands; the exception's own dict holds the part -/
def Told (H H' : Hp) (d : Addr) (y : Str) : Prop := Same H H' ∧ H' d = some (.xd [(("part" : Str), V.str y)])
theorem Told.look {H H' : Hp} {d : Addr} {y : Str} (h : Told H H' d y) : ∃ fs : List (Str × V), H' d = some (.xd fs) ∧ fs.lookup ("part" : Str) = some (V.str y) := ⟨_, h.2, by simp [List.lookup]⟩
def tBad (C : Addr) (y : Str) (W : WX) : TS := fun _ σ H => ∀ (d : Addr) (H' : Hp), Told H H' d y → W (.ref C) (some d) σ H'
theorem ps_bad {X : Cx} {C : Addr} {W : WX} {y : Str} {j : Nat} {p p2 pos pos2 : Pos} (B : BadR X.prog X.w X.K X.mg X.base C) (hc : X.calm = true) (tk : Takes X W) (hr : Room 2 X.A) (hg : Gl X "BadRatio" := by rfl)
    (he : starEach [.Constant (.str y) j p2] X.env = (false, eval (.Constant (.str y) j p2) X.env) :: starEach [] X.env := by rfl) (hpl : (backTo pos (starEach [] X.env)).any (·.1) = false := by rfl) :
    PS X (.Raise (some (.Call (.Name "BadRatio" p) [.Constant (.str y) j p2] [] pos)) none pos2) (tBad C y W) := by
  obtain ⟨fI, fd, i1, i2, D⟩ := B.i
  have F1 : FnOk X.prog X.w X.K X.mg X.base CX0 1 fI fd ["self", "part"] (spBad C) := ok_bad D B.o B.no
  have b1 : Binds X.K fd ["self", "part"] [] := D.bindsN fun _ _ _ _ _ _ us hl => match us, hl with | [_, _], _ => rfl
  have r := ps_raise (pos := pos2) hc tk (pmk_oex (p := p) (pos := pos) B.o i1 i2 F1 hr b1 .nil pass0 hg B.g (pa_cons (pe_str (x := y) (j := j) (pos := p2)) pa_nil) (by decide) he hpl)
  refine ⟨fun pins s σ H D' I h => r.run pins s σ H D' I ?_⟩
  refine ⟨by show 1 ≤ 1000; decide, fun a na => ⟨a, .str y, rfl, upd_same, fun dx nd nea => ⟨rfl, dx, _, upd_same, by rw [upd_ne nea]; exact upd_same, ?_, ?_⟩⟩⟩
  · rw [upd_ne nea] at nd
    exact nd
  · refine h dx _ ⟨fun b o e => ?_, upd_same⟩
    rw [upd_ne nea] at nd
    have h1 := ne_of_none e na
    have h2 := ne_of_none e nd
    rw [upd_ne h2, del_ne h1, upd_ne h1, upd_ne h2, upd_ne h1]
    exact e
end K1

/-! Ratio(top, bottom). -/
namespace K1
open PySem PySem.Spec PyProof.Rows L2 LamX

/-- is_integer says no of it -/
def NotInt (K : PySem.W.Frag) (H : Hp) (v : V) : Prop := ∃ (t : Value) (c : Bool), TyOf K H v t ∧ PySem.W.kitOne K t (.type "int") = some c ∧ (c = true → PySem.W.kitOne K t (.type "bool") = some true)
theorem Odd.not {K : PySem.W.Frag} {H : Hp} {v : V} {T : String} (h : Odd H v T) : NotInt K H v := by
  obtain ⟨c, h1, h2⟩ := odd_int (K := K) h.mem
  exact ⟨_, c, h.ty, h1, h2⟩
theorem RatAt.not {K : PySem.W.Frag} {C : Addr} {H : Hp} {a : Addr} {t b : Int} (F : RatF K C) (h : RatAt C H a t b) : NotInt K H (.ref a) := ⟨_, false, h.ty F, F.noI, fun z => nomatch z⟩
theorem int1 {K : PySem.W.Frag} : PySem.W.kitOne K (.type "int") (.type "int") = some true := kit_ty (a := "int") (b := "int") (r := true) (by decide +kernel)
theorem int2 {K : PySem.W.Frag} : (true = true) → PySem.W.kitOne K (.type "int") (.type "bool") = some false := fun _ => kit_ty (a := "int") (b := "bool") (r := false) (by decide +kernel)
theorem bl_no {c : Bool} {Q : VK} {H : Hp} (q : Q (.bl false) H) : Q (.bl (c && !true)) H := by rw [Bool.not_true, Bool.and_false]; exact q

/-- is_integer as a def that is called -/
structure HasInt (P : Program) (w : World) (K : PySem.W.Frag) (mg : Str → Option Value) (base : Heap) : Prop where
  h : ∃ f fd, mg "is_integer" = some (.ref f) ∧ PySem.W.keepIn K (.ref f) = true ∧ Binds K fd ["value"] [] ∧ FnOk P w K mg base CX0 1 f fd ["value"] (spIsInt K)

/-- a def, defaults or none, that may raise -/
theorem okX {P : Program} {w : World} {K : PySem.W.Frag} {mg : Str → Option Value} {base : Heap} {x qual : Str} {params : Arguments} {body : List Stmt} {scope : Scope} {dvs : List V} {kws : List (Str × V)} {f : Addr} {fd : FuncData} {N ps : List Str} {k : Nat} {sp : Sp}
    (F : FunD K x qual params body scope dvs kws f fd) (S : FnScope N ps scope) (len : ∀ vs H Q E, sp vs H Q E → vs.length = ps.length)
    (hb : ∀ (cdv : Value) (A : Around) (outer : List Env) (s : Shared) (H : Hp) (vs : List V) (Q : VK) (E : XK), Room k (A.deeper (envOfC qual scope s.heap.objs.size f cdv)) → sp vs H Q E →
      ∃ t, PSs (cxOf (L2.CX P w) P w K mg base N qual scope f cdv A outer s H E) body t ∧ t { nx := fun _ H' => Q .non H', rt := Q } (start N vs) H) : FnOk P w K mg base (L2.CX P w) (k + 1) f fd ps sp := by
  obtain ⟨oc, od, dV, kV, doc, pm, an, cdv, ct, osl, rfl, lk, hcd, _, _⟩ := F.ex
  exact fn_of lk hcd S len fun A outer s H vs Q E hr h => hb cdv A outer s H vs Q E hr h

def spRI (K : PySem.W.Frag) (C CB : Addr) : Sp := fun vs H Q E => ∃ (p dx : Addr) (vt vb : V), vs = [.ref p, vt, vb] ∧ H p = some (.ins C dx []) ∧
  ((∃ t b : Int, vt = .int t ∧ vb = .int b ∧ b ≠ 0 ∧ Sm 8000 t ∧ Sm 8000 b ∧ Q .non (upd H p (.ins C dx (fsR (rT t b) (rB t b))))) ∨
   (NotInt K H vt ∧ ∀ d H', Told H H' d "top" → E (.ref CB) (some d) H') ∨
   (∃ t : Int, vt = .int t ∧ (NotInt K H vb ∨ vb = .int 0) ∧ ∀ d H', Told H H' d "bottom" → E (.ref CB) (some d) H'))
section
variable {P : Program} {w : World} {K : PySem.W.Frag} {mg : Str → Option Value} {base : Heap} {f C CB : Addr} {fd : FuncData} {dv : List V}
theorem scRI : FnScope ["self", "top", "bottom", "shared"] ["self", "top", "bottom"] (defScope sRInit) := ⟨rfl, rfl, rfl, by decide +kernel, rfl, by decide +kernel, by decide +kernel⟩
theorem ok_rinit (G : Glob mg) (R : RatF K C) (B : BadR P w K mg base CB) (HI : HasInt P w K mg base) (F : FunD K "__init__" "Ratio.__init__" (defArgs sRInit) (defBody sRInit) (defScope sRInit) dv [] f fd) :
    FnOk P w K mg base (L2.CX P w) 3 f fd ["self", "top", "bottom"] (spRI K C CB) := by
  obtain ⟨fi, fdi, mI, kI, bI, GI⟩ := HI.h
  refine okX F scRI (fun vs H Q E ⟨p, dx, vt, vb, e, _⟩ => by rw [e]; rfl) (fun cdv A outer s H vs Q E hr ⟨p, dx, vt, vb, e, hp, h⟩ => ?_)
  subst e
  have tk : Takes (cxOf (L2.CX P w) P w K mg base ["self", "top", "bottom", "shared"] "Ratio.__init__" (defScope sRInit) f cdv A outer s H E) (fun cls d _ H' => E cls d H') := takes_of rfl rfl rfl rfl
  have hr1 := hr.mono (show 1 ≤ 2 by decide)
  refine ⟨_, pss_cons (ps_if (pt_not (pt_val (pe_call GI hr1 rfl mI kI bI .nil pass0 (pa_cons (pv 1) pa_nil)))) (pss_one (ps_bad B rfl tk hr)) pss_nil)
    (pss_cons (ps_if (PW.pt (pw_or (pt_not (pt_val (pe_call GI hr1 rfl mI kI bI .nil pass0 (pa_cons (pv 2) pa_nil)))) (pw_or1 (pt_cmpR op_eq (pv 2) pe_int (nomark _))))) (pss_one (ps_bad B rfl tk hr)) pss_nil)
    (pss_cons (ps_set (i := 3) scRI.nd rfl (Or.inl rfl) (pe_ifExp (pt_cmpR op_gt (pv 2) pe_int (nomark _)) (pe_callBfun cr_gcd (by rfl) G.gcd (pa_cons (pv 1) (pa_cons (pv 2) pa_nil)))
      (pe_un un_neg (pe_callBfun cr_gcd (by rfl) G.gcd (pa_cons (pv 1) (pa_cons (pv 2) pa_nil))))))
    (pss_cons (ps_fld (pv 0) (pe_op op_fdivZ (pv 1) (pv 3)) rfl)
    (pss_one (ps_fld (pv 0) (pe_op op_fdivZ (pv 2) (pv 3)) rfl))))), ?_⟩
  rcases h with ⟨t, b, rfl, rfl, b0, st, sb, q⟩ | ⟨n1, q⟩ | ⟨t, rfl, n2, q⟩
  · refine ⟨_, rfl, _, _, _, _, rfl, .int t, int1, int2, true, rfl, iteF ?_⟩
    refine ⟨_, rfl, _, _, _, _, rfl, .int b, int1, int2, true, rfl, iteF ?_⟩
    refine ⟨_, rfl, rfl, false, by rw [decide_eq_false (show ¬ V.int b = V.int 0 from fun e => b0 (V.int.inj e))], iteF ?_⟩
    have dv : ∀ x, CDivZ x (com t b) := fun x => ⟨com_ne b0, by
      have g : (com t b).natAbs ≤ b.natAbs := by rw [com_abs]; exact Nat.gcd_le_right _ (by omega)
      have z : Sm 8000 (com t b) := Nat.lt_of_le_of_lt g sb
      exact Nat.lt_of_lt_of_le (z.log (by decide)) (by decide)⟩
    have c1 : ∀ {z : Int}, b > 0 → ((Nat.gcd t.natAbs b.natAbs : Nat) : Int) = z → z = com t b := fun h e => by rw [← e]; unfold com; rw [if_pos h]
    have c2 : ∀ {z : Int}, ¬ b > 0 → -((Nat.gcd t.natAbs b.natAbs : Nat) : Int) = z → z = com t b := fun h e => by rw [← e]; unfold com; rw [if_neg h]
    refine ⟨_, rfl, _, _, rfl, rfl, decide (0 < b), rfl, ?_⟩
    by_cases hb : b > 0
    · rw [decide_eq_true hb]
      refine iteT ⟨_, rfl, _, rfl, t, b, rfl, ?_⟩
      generalize hz : ((Nat.gcd t.natAbs b.natAbs : Nat) : Int) = z
      obtain rfl := c1 hb hz
      refine ⟨_, rfl, _, rfl, _, _, rfl, rfl, dv _, _, rfl, p, C, dx, [], rfl, hp, R.cl, R.nT, (by show 0 < 1000; decide), ?_⟩
      refine ⟨_, rfl, _, rfl, _, _, rfl, rfl, dv _, _, rfl, p, C, dx, _, rfl, upd_same, R.cl, R.nB, (by show 1 < 1000; decide), ?_⟩
      rw [upd_upd]
      exact q
    · rw [decide_eq_false hb]
      refine iteF ⟨_, rfl, _, rfl, t, b, rfl, _, rfl, ?_⟩
      have e : com t b = -((Nat.gcd t.natAbs b.natAbs : Nat) : Int) := (c2 hb rfl).symm
      unfold rT rB at q
      rw [e] at q
      rw [e] at dv
      refine ⟨_, rfl, _, rfl, _, _, rfl, rfl, dv _, _, rfl, p, C, dx, [], rfl, hp, R.cl, R.nT, (by show 0 < 1000; decide), ?_⟩
      refine ⟨_, rfl, _, rfl, _, _, rfl, rfl, dv _, _, rfl, p, C, dx, _, rfl, upd_same, R.cl, R.nB, (by show 1 < 1000; decide), ?_⟩
      rw [upd_upd]
      exact q
  · obtain ⟨ty, c, k1, k2, k3⟩ := n1
    refine ⟨_, rfl, _, _, _, _, rfl, k1, k2, k3, ?_⟩
    rw [Bool.not_true, Bool.and_false]
    exact ⟨false, rfl, iteT q⟩
  · refine ⟨_, rfl, _, _, _, _, rfl, .int t, int1, int2, true, rfl, iteF ?_⟩
    rcases n2 with ⟨ty, c, k1, k2, k3⟩ | rfl
    · refine ⟨_, rfl, _, _, _, _, rfl, k1, k2, k3, ?_⟩
      rw [Bool.not_true, Bool.and_false]
      exact ⟨false, rfl, iteT (iteT q)⟩
    · refine ⟨_, rfl, _, _, _, _, rfl, .int 0, int1, int2, true, rfl, iteF ?_⟩
      exact ⟨_, rfl, rfl, true, by rw [decide_eq_true rfl], iteT q⟩
end
end K1

/-! _right; Ratio(..) as an expression. -/
namespace K1
open PySem PySem.Spec PyProof.Rows L2 LamX

theorem Told.from {H H1 H' : Hp} {d : Addr} {y : Str} (s : Same H H1) (h : Told H1 H' d y) : Told H H' d y := ⟨fun b o e => h.1 b o (s b o e), h.2⟩
/-- Ratio's class and its __init__, for Ratio(e) and Ratio(e, e') -/
structure MkR (P : Program) (w : World) (K : PySem.W.Frag) (mg : Str → Option Value) (base : Heap) (C CB : Addr) : Prop where
  g : mg "Ratio" = some (.ref C)
  m : ∃ f fd ds, Mk K C f ∧ FnOk P w K mg base (L2.CX P w) 3 f fd ["self", "top", "bottom"] (spRI K C CB) ∧ Binds K fd ["self", "top", "bottom"] [] ∧ Vals [V.int 1] ds ∧ Binds K fd ["self", "top", "bottom"] ds
theorem made_same {H : Hp} {C x dx : Addr} (hx : H x = none) (hd : H dx = none) (ne : dx ≠ x) : Same H (upd (upd H dx (.own x)) x (.ins C dx [])) := fun b o e => by
  rw [upd_ne (ne_of_none e hx), upd_ne (ne_of_none e hd)]
  exact e
/-- what is wanted of a new Ratio of t over b -/
def New (C : Addr) (H : Hp) (t b : Int) (Q : VK) : Prop := ∀ (p : Addr) (H' : Hp), Same H H' → H p = none → RatAt C H' p (rT t b) (rB t b) → Q (.ref p) H'
theorem mk_new {K : PySem.W.Frag} {C CB : Addr} {H : Hp} {t b : Int} {Q : VK} {E : XK} (b0 : b ≠ 0) (st : Sm 8000 t) (sb : Sm 8000 b) (q : New C H t b Q) :
    ∀ x dx, H x = none → H dx = none → dx ≠ x → spRI K C CB [.ref x, .int t, .int b] (upd (upd H dx (.own x)) x (.ins C dx [])) (fun v H2 => v = .non ∧ Q (.ref x) H2) E := fun x dx hx hd ne =>
  ⟨x, dx, _, _, rfl, upd_same, .inl ⟨t, b, rfl, rfl, b0, st, sb, rfl, by
    rw [upd_upd]
    exact q x _ (fun o u e => by rw [upd_ne (ne_of_none e hx), upd_ne (ne_of_none e hd)]; exact e) hx ⟨dx, upd_same⟩⟩⟩
theorem NotInt.same {K : PySem.W.Frag} {C : Addr} {H H' : Hp} {v : V} (s : Same H H') (h : NotInt K H v) : NotInt K H' v := by
  obtain ⟨t, c, ty, h⟩ := h
  refine ⟨t, c, ?_, h⟩
  cases ty with
  | non => exact .non
  | bl x => exact .bl x
  | int i => exact .int i
  | str x => exact .str x
  | flt x => exact .flt x
  | lst e => exact .lst (s _ _ e)
  | frz e => exact .frz (s _ _ e)
  | tup e => exact .tup (s _ _ e)
  | dK e => exact .dK (s _ _ e)
  | dT e => exact .dT (s _ _ e)
  | ins e a b c d f => exact .ins (s _ _ e) a b c d f

/-- _right(other): the Ratio itself, a new one of an integer; an odd value is refused -/
def spRight (C CB : Addr) : Sp := fun vs H Q E => ∃ v, vs = [v] ∧
  ((∃ t b, RatV C H v t b ∧ Sm 8000 t ∧ ∀ p H', Same H H' → RatAt C H' p t b → Q (.ref p) H') ∨ (∃ T, Odd H v T ∧ ∀ d H', Told H H' d "other" → E (.ref CB) (some d) H'))
section
variable {P : Program} {w : World} {K : PySem.W.Frag} {mg : Str → Option Value} {base : Heap} {f C CB : Addr} {fd : FuncData}
theorem scRight : FnScope ["other"] ["other"] (defScope sRight) := ⟨rfl, rfl, rfl, by decide +kernel, rfl, by decide +kernel, by decide +kernel⟩
theorem ok_right (G : Glob mg) (R : RatF K C) (B : BadR P w K mg base CB) (HI : HasInt P w K mg base) (MR : MkR P w K mg base C CB) (F : DefAt K "_right" "_right" sRight f fd) :
    FnOk P w K mg base (L2.CX P w) 5 f fd ["other"] (spRight C CB) := by
  obtain ⟨fi, fdi, mI, kI, bI, GI⟩ := HI.h
  obtain ⟨fm, fdm, ds, M, GM, _, hv, bM⟩ := MR.m
  refine okX F scRight (fun vs H Q E ⟨v, e, _⟩ => by rw [e]; rfl) (fun cdv A outer s H vs Q E hr ⟨v, e, h⟩ => ?_)
  subst e
  have tk : Takes (cxOf (L2.CX P w) P w K mg base ["other"] "_right" (defScope sRight) f cdv A outer s H E) (fun cls d _ H' => E cls d H') := takes_of rfl rfl rfl rfl
  refine ⟨_, pss_cons (ps_if (pt_val (pe_callB call_isi (by rfl) G.isi (by decide +kernel) (pa_cons (pv 0) (pa_cons (pe_glob (v := .ref C) rfl MR.g rfl) pa_nil)))) (pss_one (ps_ret (pv 0))) pss_nil)
    (pss_cons (ps_if (pt_not (pt_val (pe_call GI (hr.mono (by decide)) rfl mI kI bI .nil pass0 (pa_cons (pv 0) pa_nil)))) (pss_one (ps_bad B rfl tk (hr.mono (by decide)))) pss_nil)
    (pss_one (ps_ret (pe_make M GM hr rfl MR.g bM hv (passes_call tk fun _ _ _ _ z => z) (pa_cons (pv 0) pa_nil))))), ?_⟩
  rcases h with ⟨t, b, hv, st, q⟩ | ⟨T, ho, q⟩
  · rcases hv with ⟨a, rfl, ha⟩ | ⟨rfl, rfl⟩
    · refine ⟨_, rfl, _, _, _, _, _, rfl, .own C, .base (ha.ty R), R.me, true, rfl, iteT ⟨_, rfl, ?_⟩⟩
      exact q a H (Same.refl H) ha
    · refine ⟨_, rfl, _, _, _, _, _, rfl, .own C, .base (.int t), R.int, false, rfl, iteF ?_⟩
      refine ⟨_, rfl, _, _, _, _, rfl, .int t, int1, int2, true, rfl, iteF ?_⟩
      refine ⟨_, rfl, mk_new (by decide) st (Sm.one (by decide)) fun p H' s _ hp => ?_⟩
      obtain ⟨e1, e2⟩ := red_one t
      rw [e1, e2] at hp
      exact q p H' s hp
  · refine ⟨_, rfl, _, _, _, _, _, rfl, .own C, .base ho.ty, R.odd T ho.mem, false, rfl, iteF ?_⟩
    obtain ⟨ty, c, k1, k2, k3⟩ := ho.not (K := K)
    refine ⟨_, rfl, _, _, _, _, rfl, k1, k2, k3, ?_⟩
    rw [Bool.not_true, Bool.and_false]
    exact ⟨false, rfl, iteT q⟩
end
end K1

/-! x + y, x - y, x * y, x.over(y), and their kin: the defs. -/
namespace K1
open PySem PySem.Spec PyProof.Rows L2 LamX

/-- _right as a def that is called -/
structure HasRight (P : Program) (w : World) (K : PySem.W.Frag) (mg : Str → Option Value) (base : Heap) (C CB : Addr) : Prop where
  h : ∃ f fd, mg "_right" = some (.ref f) ∧ PySem.W.keepIn K (.ref f) = true ∧ Binds K fd ["other"] [] ∧ FnOk P w K mg base (L2.CX P w) 5 f fd ["other"] (spRight C CB)
/-- a two-place method that makes a Ratio of n over d, of the four numbers -/
def spBin (C CB : Addr) (n d : Int → Int → Int → Int → Int) : Sp := fun vs H Q E => ∃ (a : Addr) (v : V) (t b : Int), vs = [.ref a, v] ∧ RatAt C H a t b ∧ b ≠ 0 ∧
  ((∃ t2 b2, RatV C H v t2 b2 ∧ b2 ≠ 0 ∧ Sm 3000 t ∧ Sm 3000 b ∧ Sm 3000 t2 ∧ Sm 3000 b2 ∧ New C H (n t b t2 b2) (d t b t2 b2) Q) ∨ (∃ T, Odd H v T ∧ ∀ dd H', Told H H' dd "other" → E (.ref CB) (some dd) H'))
theorem New.from {C : Addr} {H H1 : Hp} {t b : Int} {Q : VK} (s : Same H H1) (h : New C H t b Q) : New C H1 t b Q := fun p H' s' hp r => h p H' (s.trans s') (s.free hp) r
section
variable {P : Program} {w : World} {K : PySem.W.Frag} {mg : Str → Option Value} {base : Heap} {f C CB : Addr} {fd : FuncData}

theorem scadd : FnScope ["self", "other", "right"] ["self", "other"] (defScope sAdd) := ⟨rfl, rfl, rfl, by decide +kernel, rfl, by decide +kernel, by decide +kernel⟩
theorem ok_add (R : RatF K C) (HR : HasRight P w K mg base C CB) (MR : MkR P w K mg base C CB) (F : DefAt K "__add__" "Ratio.__add__" sAdd f fd) :
    FnOk P w K mg base (L2.CX P w) 6 f fd ["self", "other"] (spBin C CB (fun t b t2 b2 => t * b2 + t2 * b) (fun _ b _ b2 => b * b2)) := by
  obtain ⟨fr, fdr, mR, kR, bR, GR⟩ := HR.h
  obtain ⟨fm, fdm, ds, M, GM, bM, _, _⟩ := MR.m
  refine okX F scadd (fun vs H Q E ⟨a, v, t, b, e, _⟩ => by rw [e]; rfl) (fun cdv A outer s H vs Q E hr ⟨a, v, t, b, e, ha, b0, h⟩ => ?_)
  subst e
  have tk : Takes (cxOf (L2.CX P w) P w K mg base ["self", "other", "right"] "Ratio.__add__" (defScope sAdd) f cdv A outer s H E) (fun cls d _ H' => E cls d H') := takes_of rfl rfl rfl rfl
  have ps := passes_call tk (E := E) fun _ _ _ _ z => z
  refine ⟨_, pss_cons (ps_set (i := 2) scadd.nd rfl (Or.inl rfl) (pe_call GR hr rfl mR kR bR .nil ps (pa_cons (pv 1) pa_nil)))
    (pss_one (ps_ret (pe_make M GM (hr.mono (by decide)) rfl MR.g bM .nil ps (pa_cons (pe_op op_add (pe_op op_mulW (pe_fld (pv 0) rfl) (pe_fld (pv 2) rfl)) (pe_op op_mulW (pe_fld (pv 2) rfl) (pe_fld (pv 0) rfl))) (pa_cons (pe_op op_mulW (pe_fld (pv 0) rfl) (pe_fld (pv 2) rfl)) pa_nil))))), ?_⟩
  rcases h with ⟨t2, b2, hv, c0, s1, s2, s3, s4, q⟩ | ⟨T, ho, q⟩
  · refine ⟨_, rfl, _, rfl, .inl ⟨t2, b2, hv, s3.mono (by decide), fun p H1 sm hp => ?_⟩⟩
    have q1 := q.from sm
    obtain ⟨dx, h1⟩ := ha.same sm
    obtain ⟨dy, h2⟩ := hp
    refine ⟨_, rfl, a, C, dx, _, _, rfl, h1, R.cl, R.nT, fsR_top _ _, _, rfl, p, C, dy, _, _, rfl, h2, R.cl, R.nB, fsR_bottom _ _, _, _, rfl, rfl, s1.mulW s4, _, rfl, p, C, dy, _, _, rfl, h2, R.cl, R.nT, fsR_top _ _, _, rfl, a, C, dx, _, _, rfl, h1, R.cl, R.nB, fsR_bottom _ _, _, _, rfl, rfl, s3.mulW s2, _, _, rfl, rfl, _, rfl, a, C, dx, _, _, rfl, h1, R.cl, R.nB, fsR_bottom _ _, _, rfl, p, C, dy, _, _, rfl, h2, R.cl, R.nB, fsR_bottom _ _, _, _, rfl, rfl, s2.mulW s4, ?_⟩
    exact mk_new (Int.mul_ne_zero b0 c0) ((Sm.add (s1.mul s4) (s3.mul s2)).mono (by decide)) ((s2.mul s4).mono (by decide)) q1

  · exact ⟨_, rfl, _, rfl, .inr ⟨T, ho, q⟩⟩

theorem scsub : FnScope ["self", "other", "right"] ["self", "other"] (defScope sSub) := ⟨rfl, rfl, rfl, by decide +kernel, rfl, by decide +kernel, by decide +kernel⟩
theorem ok_sub (R : RatF K C) (HR : HasRight P w K mg base C CB) (MR : MkR P w K mg base C CB) (F : DefAt K "__sub__" "Ratio.__sub__" sSub f fd) :
    FnOk P w K mg base (L2.CX P w) 6 f fd ["self", "other"] (spBin C CB (fun t b t2 b2 => t * b2 - t2 * b) (fun _ b _ b2 => b * b2)) := by
  obtain ⟨fr, fdr, mR, kR, bR, GR⟩ := HR.h
  obtain ⟨fm, fdm, ds, M, GM, bM, _, _⟩ := MR.m
  refine okX F scsub (fun vs H Q E ⟨a, v, t, b, e, _⟩ => by rw [e]; rfl) (fun cdv A outer s H vs Q E hr ⟨a, v, t, b, e, ha, b0, h⟩ => ?_)
  subst e
  have tk : Takes (cxOf (L2.CX P w) P w K mg base ["self", "other", "right"] "Ratio.__sub__" (defScope sSub) f cdv A outer s H E) (fun cls d _ H' => E cls d H') := takes_of rfl rfl rfl rfl
  have ps := passes_call tk (E := E) fun _ _ _ _ z => z
  refine ⟨_, pss_cons (ps_set (i := 2) scsub.nd rfl (Or.inl rfl) (pe_call GR hr rfl mR kR bR .nil ps (pa_cons (pv 1) pa_nil)))
    (pss_one (ps_ret (pe_make M GM (hr.mono (by decide)) rfl MR.g bM .nil ps (pa_cons (pe_op op_sub (pe_op op_mulW (pe_fld (pv 0) rfl) (pe_fld (pv 2) rfl)) (pe_op op_mulW (pe_fld (pv 2) rfl) (pe_fld (pv 0) rfl))) (pa_cons (pe_op op_mulW (pe_fld (pv 0) rfl) (pe_fld (pv 2) rfl)) pa_nil))))), ?_⟩
  rcases h with ⟨t2, b2, hv, c0, s1, s2, s3, s4, q⟩ | ⟨T, ho, q⟩
  · refine ⟨_, rfl, _, rfl, .inl ⟨t2, b2, hv, s3.mono (by decide), fun p H1 sm hp => ?_⟩⟩
    have q1 := q.from sm
    obtain ⟨dx, h1⟩ := ha.same sm
    obtain ⟨dy, h2⟩ := hp
    refine ⟨_, rfl, a, C, dx, _, _, rfl, h1, R.cl, R.nT, fsR_top _ _, _, rfl, p, C, dy, _, _, rfl, h2, R.cl, R.nB, fsR_bottom _ _, _, _, rfl, rfl, s1.mulW s4, _, rfl, p, C, dy, _, _, rfl, h2, R.cl, R.nT, fsR_top _ _, _, rfl, a, C, dx, _, _, rfl, h1, R.cl, R.nB, fsR_bottom _ _, _, _, rfl, rfl, s3.mulW s2, _, _, rfl, rfl, _, rfl, a, C, dx, _, _, rfl, h1, R.cl, R.nB, fsR_bottom _ _, _, rfl, p, C, dy, _, _, rfl, h2, R.cl, R.nB, fsR_bottom _ _, _, _, rfl, rfl, s2.mulW s4, ?_⟩
    exact mk_new (Int.mul_ne_zero b0 c0) ((Sm.sub (s1.mul s4) (s3.mul s2)).mono (by decide)) ((s2.mul s4).mono (by decide)) q1

  · exact ⟨_, rfl, _, rfl, .inr ⟨T, ho, q⟩⟩

theorem scmul : FnScope ["self", "other", "right"] ["self", "other"] (defScope sMul) := ⟨rfl, rfl, rfl, by decide +kernel, rfl, by decide +kernel, by decide +kernel⟩
theorem ok_mul (R : RatF K C) (HR : HasRight P w K mg base C CB) (MR : MkR P w K mg base C CB) (F : DefAt K "__mul__" "Ratio.__mul__" sMul f fd) :
    FnOk P w K mg base (L2.CX P w) 6 f fd ["self", "other"] (spBin C CB (fun t _ t2 _ => t * t2) (fun _ b _ b2 => b * b2)) := by
  obtain ⟨fr, fdr, mR, kR, bR, GR⟩ := HR.h
  obtain ⟨fm, fdm, ds, M, GM, bM, _, _⟩ := MR.m
  refine okX F scmul (fun vs H Q E ⟨a, v, t, b, e, _⟩ => by rw [e]; rfl) (fun cdv A outer s H vs Q E hr ⟨a, v, t, b, e, ha, b0, h⟩ => ?_)
  subst e
  have tk : Takes (cxOf (L2.CX P w) P w K mg base ["self", "other", "right"] "Ratio.__mul__" (defScope sMul) f cdv A outer s H E) (fun cls d _ H' => E cls d H') := takes_of rfl rfl rfl rfl
  have ps := passes_call tk (E := E) fun _ _ _ _ z => z
  refine ⟨_, pss_cons (ps_set (i := 2) scmul.nd rfl (Or.inl rfl) (pe_call GR hr rfl mR kR bR .nil ps (pa_cons (pv 1) pa_nil)))
    (pss_one (ps_ret (pe_make M GM (hr.mono (by decide)) rfl MR.g bM .nil ps (pa_cons (pe_op op_mulW (pe_fld (pv 0) rfl) (pe_fld (pv 2) rfl)) (pa_cons (pe_op op_mulW (pe_fld (pv 0) rfl) (pe_fld (pv 2) rfl)) pa_nil))))), ?_⟩
  rcases h with ⟨t2, b2, hv, c0, s1, s2, s3, s4, q⟩ | ⟨T, ho, q⟩
  · refine ⟨_, rfl, _, rfl, .inl ⟨t2, b2, hv, s3.mono (by decide), fun p H1 sm hp => ?_⟩⟩
    have q1 := q.from sm
    obtain ⟨dx, h1⟩ := ha.same sm
    obtain ⟨dy, h2⟩ := hp
    refine ⟨_, rfl, a, C, dx, _, _, rfl, h1, R.cl, R.nT, fsR_top _ _, _, rfl, p, C, dy, _, _, rfl, h2, R.cl, R.nT, fsR_top _ _, _, _, rfl, rfl, s1.mulW s3, _, rfl, a, C, dx, _, _, rfl, h1, R.cl, R.nB, fsR_bottom _ _, _, rfl, p, C, dy, _, _, rfl, h2, R.cl, R.nB, fsR_bottom _ _, _, _, rfl, rfl, s2.mulW s4, ?_⟩
    exact mk_new (Int.mul_ne_zero b0 c0) ((s1.mul s3).mono (by decide)) ((s2.mul s4).mono (by decide)) q1

  · exact ⟨_, rfl, _, rfl, .inr ⟨T, ho, q⟩⟩
end
end K1

namespace K1
open PySem PySem.Spec PyProof.Rows L2 LamX

/-- x.over(y) -/
def spOver (C CB : Addr) : Sp := fun vs H Q E => ∃ (a : Addr) (v : V) (t b : Int), vs = [.ref a, v] ∧ RatAt C H a t b ∧ b ≠ 0 ∧
  ((∃ t2 b2, RatV C H v t2 b2 ∧ t2 ≠ 0 ∧ Sm 3000 t ∧ Sm 3000 b ∧ Sm 3000 t2 ∧ Sm 3000 b2 ∧ New C H (t * b2) (b * t2) Q) ∨
   (∃ t2 b2, RatV C H v t2 b2 ∧ t2 = 0 ∧ ∀ dd H', Told H H' dd "zero" → E (.ref CB) (some dd) H') ∨
   (∃ T, Odd H v T ∧ ∀ dd H', Told H H' dd "other" → E (.ref CB) (some dd) H'))
/-- how two stand to each other -/
def cmpI (m o : Int) : Int := if m = o then 0 else if m < o then -1 else 1
def spCmp (C CB : Addr) (g : Int → V) : Sp := fun vs H Q E => ∃ (a : Addr) (v : V) (t b : Int), vs = [.ref a, v] ∧ RatAt C H a t b ∧
  ((∃ t2 b2, RatV C H v t2 b2 ∧ Sm 3000 t ∧ Sm 3000 b ∧ Sm 3000 t2 ∧ Sm 3000 b2 ∧ ∀ H', Same H H' → Q (g (cmpI (t * b2) (t2 * b))) H') ∨
   (∃ T, Odd H v T ∧ ∀ dd H', Told H H' dd "other" → E (.ref CB) (some dd) H'))
def spUn (C : Addr) (n : Int → Int) : Sp := fun vs H Q _ => ∃ (a : Addr) (t b : Int), vs = [.ref a] ∧ RatAt C H a t b ∧ b ≠ 0 ∧ Sm 3000 t ∧ Sm 3000 b ∧ New C H (n t) b Q
/-- what one number or both tell -/
def spTell (C : Addr) (g : Int → Int → V) : Sp := fun vs H Q _ => ∃ (a : Addr) (t b : Int), vs = [.ref a] ∧ RatAt C H a t b ∧ Q (g t b) H
def sgn (t : Int) : Int := if t = 0 then 0 else if t > 0 then 1 else -1
/-- x == y -/
def spEq (K : PySem.W.Frag) (C : Addr) : Sp := fun vs H Q _ => ∃ (a : Addr) (v : V) (t b : Int), vs = [.ref a, v] ∧ RatAt C H a t b ∧
  ((∃ a2 t2 b2, v = .ref a2 ∧ RatAt C H a2 t2 b2 ∧ Q (.bl (decide (t = t2) && decide (b = b2))) H) ∨ (∃ n, v = .int n ∧ Q (.bl (decide (b = 1) && decide (t = n))) H) ∨ (∃ T, Odd H v T ∧ Q (.bl false) H))
theorem decI {i j : Int} : decide (V.int i = V.int j) = decide (i = j) := by
  by_cases h : i = j
  · rw [decide_eq_true h, decide_eq_true (by rw [h])]
  · rw [decide_eq_false h, decide_eq_false (fun e => h (V.int.inj e))]
section
variable {P : Program} {w : World} {K : PySem.W.Frag} {mg : Str → Option Value} {base : Heap} {f C CB : Addr} {fd : FuncData}
theorem scover : FnScope ["self", "other", "right"] ["self", "other"] (defScope sOver) := ⟨rfl, rfl, rfl, by decide +kernel, rfl, by decide +kernel, by decide +kernel⟩
theorem ok_over (R : RatF K C) (B : BadR P w K mg base CB) (HR : HasRight P w K mg base C CB) (MR : MkR P w K mg base C CB) (F : DefAt K "over" "Ratio.over" sOver f fd) :
    FnOk P w K mg base (L2.CX P w) 6 f fd ["self", "other"] (spOver C CB) := by
  obtain ⟨fr, fdr, mR, kR, bR, GR⟩ := HR.h
  obtain ⟨fm, fdm, ds, M, GM, bM, _, _⟩ := MR.m
  refine okX F scover (fun vs H Q E ⟨a, v, t, b, e, _⟩ => by rw [e]; rfl) (fun cdv A outer s H vs Q E hr ⟨a, v, t, b, e, ha, b0, h⟩ => ?_)
  subst e
  have tk : Takes (cxOf (L2.CX P w) P w K mg base ["self", "other", "right"] "Ratio.over" (defScope sOver) f cdv A outer s H E) (fun cls d _ H' => E cls d H') := takes_of rfl rfl rfl rfl
  have ps := passes_call tk (E := E) fun _ _ _ _ z => z
  refine ⟨_, pss_cons (ps_set (i := 2) scover.nd rfl (Or.inl rfl) (pe_call GR hr rfl mR kR bR .nil ps (pa_cons (pv 1) pa_nil)))
    (pss_cons (ps_if (pt_cmpR op_eq (pe_fld (pv 2) rfl) pe_int (nomark _)) (pss_one (ps_bad B rfl tk (hr.mono (by decide)))) pss_nil)
    (pss_one (ps_ret (pe_make M GM (hr.mono (by decide)) rfl MR.g bM .nil ps (pa_cons (pe_op op_mulW (pe_fld (pv 0) rfl) (pe_fld (pv 2) rfl)) (pa_cons (pe_op op_mulW (pe_fld (pv 0) rfl) (pe_fld (pv 2) rfl)) pa_nil)))))), ?_⟩
  rcases h with ⟨t2, b2, hv, c0, s1, s2, s3, s4, q⟩ | ⟨t2, b2, hv, rfl, q⟩ | ⟨T, ho, q⟩
  · refine ⟨_, rfl, _, rfl, .inl ⟨t2, b2, hv, s3.mono (by decide), fun p H1 sm hp => ?_⟩⟩
    have q1 := q.from sm
    obtain ⟨dx, h1⟩ := ha.same sm
    obtain ⟨dy, h2⟩ := hp
    have d0 : b2 ≠ 0 ∨ b2 = 0 := (Decidable.em _).symm
    refine ⟨_, rfl, p, C, dy, _, _, rfl, h2, R.cl, R.nT, fsR_top _ _, rfl, _, rfl, ?_⟩
    rw [decI, decide_eq_false c0]
    refine iteF ?_
    refine ⟨_, rfl, a, C, dx, _, _, rfl, h1, R.cl, R.nT, fsR_top _ _, _, rfl, p, C, dy, _, _, rfl, h2, R.cl, R.nB, fsR_bottom _ _, _, _, rfl, rfl, s1.mulW s4, ?_⟩
    refine ⟨_, rfl, a, C, dx, _, _, rfl, h1, R.cl, R.nB, fsR_bottom _ _, _, rfl, p, C, dy, _, _, rfl, h2, R.cl, R.nT, fsR_top _ _, _, _, rfl, rfl, s2.mulW s3, ?_⟩
    exact mk_new (Int.mul_ne_zero b0 c0) ((s1.mul s4).mono (by decide)) ((s2.mul s3).mono (by decide)) q1
  · refine ⟨_, rfl, _, rfl, .inl ⟨0, b2, hv, Nat.pow_pos (by decide), fun p H1 sm hp => ?_⟩⟩
    obtain ⟨dy, h2⟩ := hp
    refine ⟨_, rfl, p, C, dy, _, _, rfl, h2, R.cl, R.nT, fsR_top _ _, rfl, _, rfl, ?_⟩
    rw [decI, decide_eq_true rfl]
    exact iteT fun d H' z => q d H' (z.from sm)
  · exact ⟨_, rfl, _, rfl, .inr ⟨T, ho, q⟩⟩
theorem sccmp : FnScope ["self", "other", "right", "mine", "others"] ["self", "other"] (defScope sCompared) := ⟨rfl, rfl, rfl, by decide +kernel, rfl, by decide +kernel, by decide +kernel⟩
theorem ok_cmp (R : RatF K C) (HR : HasRight P w K mg base C CB) (F : DefAt K "compared" "Ratio.compared" sCompared f fd) : FnOk P w K mg base (L2.CX P w) 6 f fd ["self", "other"] (spCmp C CB V.int) := by
  obtain ⟨fr, fdr, mR, kR, bR, GR⟩ := HR.h
  refine okX F sccmp (fun vs H Q E ⟨a, v, t, b, e, _⟩ => by rw [e]; rfl) (fun cdv A outer s H vs Q E hr ⟨a, v, t, b, e, ha, h⟩ => ?_)
  subst e
  have tk : Takes (cxOf (L2.CX P w) P w K mg base ["self", "other", "right", "mine", "others"] "Ratio.compared" (defScope sCompared) f cdv A outer s H E) (fun cls d _ H' => E cls d H') := takes_of rfl rfl rfl rfl
  have ps := passes_call tk (E := E) fun _ _ _ _ z => z
  refine ⟨_, pss_cons (ps_set (i := 2) sccmp.nd rfl (Or.inl rfl) (pe_call GR hr rfl mR kR bR .nil ps (pa_cons (pv 1) pa_nil)))
    (pss_cons (ps_par (i := 3) (j := 4) (by rfl) sccmp.nd rfl rfl (by decide) rfl rfl (pa_cons (pe_op op_mulW (pe_fld (pv 0) rfl) (pe_fld (pv 2) rfl)) (pa_cons (pe_op op_mulW (pe_fld (pv 2) rfl) (pe_fld (pv 0) rfl)) pa_nil)) (by rfl))
    (pss_cons (ps_if (pt_cmpR op_eq (pv 3) (pv 4) (nomark _)) (pss_one (ps_ret pe_int)) pss_nil)
    (pss_one (ps_ret (pe_ifExp (pt_cmpR op_lt (pv 3) (pv 4) (nomark _)) (pe_un un_neg pe_int) pe_int))))), ?_⟩
  rcases h with ⟨t2, b2, hv, s1, s2, s3, s4, q⟩ | ⟨T, ho, q⟩
  · refine ⟨_, rfl, _, rfl, .inl ⟨t2, b2, hv, s3.mono (by decide), fun p H1 sm hp => ?_⟩⟩
    have q1 := q H1 sm
    obtain ⟨dx, h1⟩ := ha.same sm
    obtain ⟨dy, h2⟩ := hp
    refine ⟨_, rfl, a, C, dx, _, _, rfl, h1, R.cl, R.nT, fsR_top _ _, _, rfl, p, C, dy, _, _, rfl, h2, R.cl, R.nB, fsR_bottom _ _, _, _, rfl, rfl, s1.mulW s4, ?_⟩
    refine ⟨_, rfl, p, C, dy, _, _, rfl, h2, R.cl, R.nT, fsR_top _ _, _, rfl, a, C, dx, _, _, rfl, h1, R.cl, R.nB, fsR_bottom _ _, _, _, rfl, rfl, s3.mulW s2, ?_⟩
    refine ⟨_, _, rfl, _, rfl, _, rfl, rfl, _, rfl, ?_⟩
    unfold cmpI at q1
    by_cases e : t * b2 = t2 * b
    · rw [decI, decide_eq_true e]
      rw [if_pos e] at q1
      exact iteT q1
    · rw [decI, decide_eq_false e]
      rw [if_neg e] at q1
      refine iteF ⟨_, rfl, _, rfl, _, _, rfl, rfl, _, rfl, ?_⟩
      by_cases l : t * b2 < t2 * b
      · rw [decide_eq_true l]
        rw [if_pos l] at q1
        exact iteT ⟨_, rfl, q1⟩
      · rw [decide_eq_false l]
        rw [if_neg l] at q1
        exact iteF q1
  · exact ⟨_, rfl, _, rfl, .inr ⟨T, ho, q⟩⟩
end
end K1

namespace K1
open PySem PySem.Spec PyProof.Rows L2 LamX

/-- a def that lets nothing out -/
theorem okN {P : Program} {w : World} {K : PySem.W.Frag} {mg : Str → Option Value} {base : Heap} {x qual : Str} {params : Arguments} {body : List Stmt} {scope : Scope} {dvs : List V} {kws : List (Str × V)} {f : Addr} {fd : FuncData} {N ps : List Str} {k : Nat} {sp : Sp}
    (F : FunD K x qual params body scope dvs kws f fd) (S : FnScope N ps scope) (len : ∀ vs H Q E, sp vs H Q E → vs.length = ps.length)
    (hb : ∀ (cdv : Value) (A : Around) (outer : List Env) (s : Shared) (H : Hp) (vs : List V) (Q : VK) (E : XK), Room k (A.deeper (envOfC qual scope s.heap.objs.size f cdv)) → sp vs H Q E →
      ∃ t, PSs (cxOf CX0 P w K mg base N qual scope f cdv A outer s H E).nox body t ∧ t { nx := fun _ H' => Q .non H', rt := Q } (start N vs) H) : FnOk P w K mg base CX0 (k + 1) f fd ps sp :=
  F.ok S len fun cdv A outer s H vs Q E hr h => let ⟨t, h1, h2⟩ := hb cdv A outer s H vs Q E hr h; ⟨t, h1.nox, h2⟩
section
variable {P : Program} {w : World} {K : PySem.W.Frag} {mg : Str → Option Value} {base : Heap} {f C CB : Addr} {fd : FuncData}
theorem scbel : FnScope ["self", "other"] ["self", "other"] (defScope sIsBelow) := ⟨rfl, rfl, rfl, by decide +kernel, rfl, by decide +kernel, by decide +kernel⟩
theorem ok_bel {fc : Addr} {fdc : FuncData} (R : RatF K C) (M : Meth K C "compared" fc) (Fc : FnOk P w K mg base (L2.CX P w) 6 fc fdc ["self", "other"] (spCmp C CB V.int)) (bc : Binds K fdc ["self", "other"] []) (F : DefAt K "is_below" "Ratio.is_below" sIsBelow f fd) (nc : ¬ (("compared" : Str) = "top") ∧ ¬ (("compared" : Str) = "bottom")) :
    FnOk P w K mg base (L2.CX P w) 7 f fd ["self", "other"] (spCmp C CB fun n => .bl (decide (n < 0))) := by
  refine okX F scbel (fun vs H Q E ⟨a, v, t, b, e, _⟩ => by rw [e]; rfl) (fun cdv A outer s H vs Q E hr ⟨a, v, t, b, e, ha, h⟩ => ?_)
  subst e
  have tk : Takes (cxOf (L2.CX P w) P w K mg base ["self", "other"] "Ratio.is_below" (defScope sIsBelow) f cdv A outer s H E) (fun cls d _ H' => E cls d H') := takes_of rfl rfl rfl rfl
  have ps := passes_call tk (E := E) fun _ _ _ _ z => z
  refine ⟨_, pss_one (ps_ret (pe_cmpR op_lt (pe_meth (pv 0) R.cl M Fc hr bc .nil ps (pa_cons (pv 1) pa_nil)) pe_int (nomark _))), ?_⟩
  obtain ⟨dx, h1⟩ := id ha
  have l : (fsR t b).lookup ("compared" : Str) = none := by unfold fsR; rw [lookup_putF, if_neg nc.2, lookup_putF, if_neg nc.1]; rfl
  refine ⟨_, rfl, a, dx, _, rfl, h1, l, _, rfl, a, v, t, b, rfl, ha, ?_⟩
  rcases h with ⟨t2, b2, hv, s1, s2, s3, s4, q⟩ | h
  · exact .inl ⟨t2, b2, hv, s1, s2, s3, s4, fun H' s' => ⟨_, _, rfl, rfl, q H' s'⟩⟩
  · exact .inr h
theorem scneg : FnScope ["self"] ["self"] (defScope sNeg) := ⟨rfl, rfl, rfl, by decide +kernel, rfl, by decide +kernel, by decide +kernel⟩
theorem ok_neg (R : RatF K C) (MR : MkR P w K mg base C CB) (F : DefAt K "__neg__" "Ratio.__neg__" sNeg f fd) : FnOk P w K mg base (L2.CX P w) 5 f fd ["self"] (spUn C fun t => -t) := by
  obtain ⟨fm, fdm, ds, M, GM, bM, _, _⟩ := MR.m
  refine okX F scneg (fun vs H Q E ⟨a, t, b, e, _⟩ => by rw [e]; rfl) (fun cdv A outer s H vs Q E hr ⟨a, t, b, e, ha, b0, s1, s2, q⟩ => ?_)
  subst e
  have tk : Takes (cxOf (L2.CX P w) P w K mg base ["self"] "Ratio.__neg__" (defScope sNeg) f cdv A outer s H E) (fun cls d _ H' => E cls d H') := takes_of rfl rfl rfl rfl
  have ps := passes_call tk (E := E) fun _ _ _ _ z => z
  refine ⟨_, pss_one (ps_ret (pe_make M GM hr rfl MR.g bM .nil ps (pa_cons (pe_un un_neg (pe_fld (pv 0) rfl)) (pa_cons (pe_fld (pv 0) rfl) pa_nil)))), ?_⟩
  obtain ⟨dx, h1⟩ := ha
  refine ⟨_, rfl, a, C, dx, _, _, rfl, h1, R.cl, R.nT, fsR_top _ _, _, rfl, _, rfl, a, C, dx, _, _, rfl, h1, R.cl, R.nB, fsR_bottom _ _, ?_⟩
  exact mk_new b0 (s1.neg.mono (by decide)) (s2.mono (by decide)) q
theorem scabs : FnScope ["self"] ["self"] (defScope sAbs) := ⟨rfl, rfl, rfl, by decide +kernel, rfl, by decide +kernel, by decide +kernel⟩
theorem abs_if (t : Int) : (if t < 0 then -t else t) = (t.natAbs : Int) := by split <;> omega
theorem ok_abs (G : Glob mg) (R : RatF K C) (MR : MkR P w K mg base C CB) (F : DefAt K "__abs__" "Ratio.__abs__" sAbs f fd) : FnOk P w K mg base (L2.CX P w) 5 f fd ["self"] (spUn C fun t => (t.natAbs : Int)) := by
  obtain ⟨fm, fdm, ds, M, GM, bM, _, _⟩ := MR.m
  refine okX F scabs (fun vs H Q E ⟨a, t, b, e, _⟩ => by rw [e]; rfl) (fun cdv A outer s H vs Q E hr ⟨a, t, b, e, ha, b0, s1, s2, q⟩ => ?_)
  subst e
  have tk : Takes (cxOf (L2.CX P w) P w K mg base ["self"] "Ratio.__abs__" (defScope sAbs) f cdv A outer s H E) (fun cls d _ H' => E cls d H') := takes_of rfl rfl rfl rfl
  have ps := passes_call tk (E := E) fun _ _ _ _ z => z
  refine ⟨_, pss_one (ps_ret (pe_make M GM hr rfl MR.g bM .nil ps (pa_cons (pe_callB call_abs (by rfl) G.abs (by decide +kernel) (pa_cons (pe_fld (pv 0) rfl) pa_nil)) (pa_cons (pe_fld (pv 0) rfl) pa_nil)))), ?_⟩
  obtain ⟨dx, h1⟩ := ha
  refine ⟨_, rfl, a, C, dx, _, _, rfl, h1, R.cl, R.nT, fsR_top _ _, _, rfl, _, rfl, a, C, dx, _, _, rfl, h1, R.cl, R.nB, fsR_bottom _ _, ?_⟩
  refine mk_new b0 ?_ (s2.mono (by decide)) ?_
  · rw [abs_if]; exact Sm.mono (j := 3000) (by unfold Sm; rw [Int.natAbs_natCast]; exact s1) (by decide)
  · rw [abs_if]; exact q
theorem scbool : FnScope ["self"] ["self"] (defScope sBool) := ⟨rfl, rfl, rfl, by decide +kernel, rfl, by decide +kernel, by decide +kernel⟩
theorem ok_bool (G : Glob mg) (R : RatF K C) (F : DefAt K "__bool__" "Ratio.__bool__" sBool f fd) : FnOk P w K mg base CX0 1 f fd ["self"] (spTell C fun t _ => .bl (t != 0)) := by
  refine F.ok scbool (fun vs H Q E ⟨a, t, b, e, _⟩ => by rw [e]; rfl) (fun cdv A outer s H vs Q E hr ⟨a, t, b, e, ha, q⟩ => ?_)
  subst e
  obtain ⟨dx, h1⟩ := ha
  refine ⟨_, (pss_one (ps_ret (pe_callTy call_bool1 (by rfl) G.bool (by decide +kernel) (pa_cons (pe_fld (pv 0) rfl) pa_nil)))).nox, ?_⟩
  exact ⟨_, rfl, a, C, dx, _, _, rfl, h1, R.cl, R.nT, fsR_top _ _, .inl ⟨_, rfl, q⟩⟩
theorem scsign : FnScope ["self"] ["self"] (defScope sSign) := ⟨rfl, rfl, rfl, by decide +kernel, rfl, by decide +kernel, by decide +kernel⟩
theorem ok_sign (R : RatF K C) (F : DefAt K "sign" "Ratio.sign" sSign f fd) : FnOk P w K mg base CX0 1 f fd ["self"] (spTell C fun t _ => .int (sgn t)) := by
  refine F.ok scsign (fun vs H Q E ⟨a, t, b, e, _⟩ => by rw [e]; rfl) (fun cdv A outer s H vs Q E hr ⟨a, t, b, e, ha, q⟩ => ?_)
  subst e
  obtain ⟨dx, h1⟩ := ha
  refine ⟨_, (pss_cons (ps_if (pt_cmpR op_eq (pe_fld (pv 0) rfl) pe_int (nomark _)) (pss_one (ps_ret pe_int)) pss_nil)
    (pss_one (ps_ret (pe_ifExp (pt_cmpR op_gt (pe_fld (pv 0) rfl) pe_int (nomark _)) pe_int (pe_un un_neg pe_int))))).nox, ?_⟩
  refine ⟨_, rfl, a, C, dx, _, _, rfl, h1, R.cl, R.nT, fsR_top _ _, rfl, _, rfl, ?_⟩
  have q : Q (V.int (sgn t)) H := q
  unfold sgn at q
  by_cases e : t = 0
  · rw [decI, decide_eq_true e]
    rw [if_pos e] at q
    exact iteT q
  · rw [decI, decide_eq_false e]
    rw [if_neg e] at q
    refine iteF ⟨_, rfl, a, C, dx, _, _, rfl, h1, R.cl, R.nT, fsR_top _ _, _, _, rfl, rfl, decide (0 < t), rfl, ?_⟩
    by_cases l : t > 0
    · rw [decide_eq_true l]
      rw [if_pos l] at q
      exact iteT q
    · rw [decide_eq_false l]
      rw [if_neg l] at q
      exact iteF ⟨_, rfl, q⟩
theorem scwhole : FnScope ["self"] ["self"] (defScope sWhole) := ⟨rfl, rfl, rfl, by decide +kernel, rfl, by decide +kernel, by decide +kernel⟩
theorem ok_whole (R : RatF K C) (F : DefAt K "is_whole" "Ratio.is_whole" sWhole f fd) : FnOk P w K mg base CX0 1 f fd ["self"] (spTell C fun _ b => .bl (decide (b = 1))) := by
  refine F.ok scwhole (fun vs H Q E ⟨a, t, b, e, _⟩ => by rw [e]; rfl) (fun cdv A outer s H vs Q E hr ⟨a, t, b, e, ha, q⟩ => ?_)
  subst e
  obtain ⟨dx, h1⟩ := ha
  refine ⟨_, (pss_one (ps_ret (pe_cmpR op_eq (pe_fld (pv 0) rfl) pe_int (nomark _)))).nox, ?_⟩
  refine ⟨_, rfl, a, C, dx, _, _, rfl, h1, R.cl, R.nB, fsR_bottom _ _, rfl, ?_⟩
  rw [decI]
  exact q
theorem sceq : FnScope ["self", "other"] ["self", "other"] (defScope sEq) := ⟨rfl, rfl, rfl, by decide +kernel, rfl, by decide +kernel, by decide +kernel⟩
theorem ok_eq (G : Glob mg) (R : RatF K C) (HI : HasInt P w K mg base) (gR : mg "Ratio" = some (.ref C)) (F : DefAt K "__eq__" "Ratio.__eq__" sEq f fd) : FnOk P w K mg base CX0 2 f fd ["self", "other"] (spEq K C) := by
  obtain ⟨fi, fdi, mI, kI, bI, GI⟩ := HI.h
  refine okN F sceq (fun vs H Q E ⟨a, v, t, b, e, _⟩ => by rw [e]; rfl) (fun cdv A outer s H vs Q E hr ⟨a, v, t, b, e, ha, h⟩ => ?_)
  subst e
  obtain ⟨dx, h1⟩ := ha
  refine ⟨_, pss_cons (ps_if (pt_val (pe_callB call_isi (by rfl) G.isi (by decide +kernel) (pa_cons (pv 1) (pa_cons (pe_glob (v := .ref C) rfl gR rfl) pa_nil))))
      (pss_one (ps_ret (pe_and (pe_cmpR op_eq (pe_fld (pv 0) rfl) (pe_fld (pv 1) rfl) (nomark _)) (pe_one (pe_cmpR op_eq (pe_fld (pv 0) rfl) (pe_fld (pv 1) rfl) (nomark _)))))) pss_nil)
    (pss_one (ps_ret (pe_and (pe_call GI hr rfl mI kI bI .nil pass0 (pa_cons (pv 1) pa_nil)) (pe_and (pe_cmpR op_eq (pe_fld (pv 0) rfl) pe_int (nomark _)) (pe_one (pe_cmpR op_eq (pe_fld (pv 0) rfl) (pv 1) (nomark _))))))), ?_⟩
  rcases h with ⟨a2, t2, b2, rfl, h2, q⟩ | ⟨n, rfl, q⟩ | ⟨T, ho, q⟩
  · refine ⟨_, rfl, _, _, _, _, _, rfl, .own C, .base (h2.ty R), R.me, true, rfl, iteT ?_⟩
    obtain ⟨dy, h2⟩ := h2
    refine ⟨_, rfl, a, C, dx, _, _, rfl, h1, R.cl, R.nT, fsR_top _ _, _, rfl, a2, C, dy, _, _, rfl, h2, R.cl, R.nT, fsR_top _ _, rfl, _, rfl, ?_⟩
    rw [decI]
    by_cases e : t = t2
    · rw [decide_eq_true e] at q ⊢
      refine iteT ⟨_, rfl, a, C, dx, _, _, rfl, h1, R.cl, R.nB, fsR_bottom _ _, _, rfl, a2, C, dy, _, _, rfl, h2, R.cl, R.nB, fsR_bottom _ _, rfl, ?_⟩
      rw [decI]
      rw [Bool.true_and] at q
      exact q
    · rw [decide_eq_false e] at q ⊢
      exact iteF q
  · refine ⟨_, rfl, _, _, _, _, _, rfl, .own C, .base (.int n), R.int, false, rfl, iteF ?_⟩
    refine ⟨_, rfl, _, _, _, _, rfl, .int n, int1, int2, true, rfl, iteT ?_⟩
    refine ⟨_, rfl, a, C, dx, _, _, rfl, h1, R.cl, R.nB, fsR_bottom _ _, rfl, _, rfl, ?_⟩
    rw [decI]
    by_cases e : b = 1
    · rw [decide_eq_true e] at q ⊢
      refine iteT ⟨_, rfl, a, C, dx, _, _, rfl, h1, R.cl, R.nT, fsR_top _ _, _, rfl, rfl, ?_⟩
      rw [decI]
      rw [Bool.true_and] at q
      exact q
    · rw [decide_eq_false e] at q ⊢
      exact iteF q
  · refine ⟨_, rfl, _, _, _, _, _, rfl, .own C, .base ho.ty, R.odd T ho.mem, false, rfl, iteF ?_⟩
    obtain ⟨ty, c, k1, k2, k3⟩ := ho.not (K := K)
    refine ⟨_, rfl, _, _, _, _, rfl, k1, k2, k3, ?_⟩
    rw [Bool.not_true, Bool.and_false]
    exact ⟨false, rfl, iteF q⟩
end
end K1

namespace K1
open PySem PySem.Spec PyProof.Rows L2 LamX

/-- the text of a ratio -/
def ratText (t b : Int) : Str := if b = 1 then Str.ofString (toString t) else ((Str.empty ++ Str.ofString (toString t)) ++ Str.ofString "/") ++ Str.ofString (toString b)
theorem ratText_len {t b : Int} (h1 : Sm 1900 t) (h2 : Sm 1900 b) : (Str.empty ++ Str.ofString (toString t)).length ≤ 1921 ∧ ((Str.empty ++ Str.ofString (toString t)) ++ Str.ofString "/").length ≤ 1922 ∧ (ratText t b).length ≤ 4000 := by
  have a := PyProof.Rows.int_text_len_1921 (Nat.lt_trans (h1.log (by decide)) (by decide : 1900 < 1920))
  have c := PyProof.Rows.int_text_len_1921 (Nat.lt_trans (h2.log (by decide)) (by decide : 1900 < 1920))
  have e : Str.empty.length = 0 := rfl
  have e1 : (Str.ofString "/").length = 1 := by decide +kernel
  refine ⟨?_, ?_, ?_⟩
  · rw [strLen_append, e]; omega
  · rw [strLen_append, strLen_append, e, e1]; omega
  · unfold ratText
    split
    · omega
    · rw [strLen_append, strLen_append, strLen_append, e, e1]; omega
def spStr (C : Addr) : Sp := fun vs H Q _ => ∃ (a : Addr) (t b : Int), vs = [.ref a] ∧ RatAt C H a t b ∧ Sm 1900 t ∧ Sm 1900 b ∧ Q (.str (ratText t b)) H
section
variable {P : Program} {w : World} {K : PySem.W.Frag} {mg : Str → Option Value} {base : Heap} {f C CB : Addr} {fd : FuncData}
theorem scstr : FnScope ["self"] ["self"] (defScope sStr) := ⟨rfl, rfl, rfl, by decide +kernel, rfl, by decide +kernel, by decide +kernel⟩
theorem ok_str (G : Glob mg) (R : RatF K C) (F : DefAt K "__str__" "Ratio.__str__" sStr f fd) : FnOk P w K mg base CX0 1 f fd ["self"] (spStr C) := by
  refine F.ok scstr (fun vs H Q E ⟨a, t, b, e, _⟩ => by rw [e]; rfl) (fun cdv A outer s H vs Q E hr ⟨a, t, b, e, ha, st, sb, q⟩ => ?_)
  subst e
  obtain ⟨dx, h1⟩ := ha
  have lt := Nat.lt_trans (st.log (by decide)) (by decide : 1900 < 1920)
  have lb := Nat.lt_trans (sb.log (by decide)) (by decide : 1900 < 1920)
  refine ⟨_, (pss_cons (ps_if (pt_cmpR op_eq (pe_fld (pv 0) rfl) pe_int (nomark _)) (pss_one (ps_ret (pe_callTy call_str_int (by rfl) G.str (by decide +kernel) (pa_cons (pe_fld (pv 0) rfl) pa_nil)))) pss_nil)
    (pss_one (ps_ret (pe_joined (.cons (pe_fmt (pe_fld (pv 0) rfl)) (.cons pe_str (.cons (pe_fmt (pe_fld (pv 0) rfl)) .nil))))))).nox, ?_⟩
  refine ⟨_, rfl, a, C, dx, _, _, rfl, h1, R.cl, R.nB, fsR_bottom _ _, rfl, _, rfl, ?_⟩
  obtain ⟨l1, l2, l3⟩ := ratText_len st sb
  have big : (4000 : Nat) ≤ sizeLine := by decide +kernel
  by_cases hb : b = 1
  · rw [decI, decide_eq_true hb]
    have e : ratText t b = Str.ofString (toString t) := if_pos hb
    rw [e] at q
    exact iteT ⟨_, rfl, a, C, dx, _, _, rfl, h1, R.cl, R.nT, fsR_top _ _, t, rfl, lt, q⟩
  · rw [decI, decide_eq_false hb]
    have e : ratText t b = ((Str.empty ++ Str.ofString (toString t)) ++ Str.ofString "/") ++ Str.ofString (toString b) := if_neg hb
    rw [e] at q l3
    refine iteF ⟨_, rfl, a, C, dx, _, _, rfl, h1, R.cl, R.nT, fsR_top _ _, .inr ⟨t, rfl, lt, ?_⟩⟩
    refine ⟨_, rfl, Nat.le_trans l1 (by omega), _, rfl, Nat.le_trans l2 (by omega), ?_⟩
    exact ⟨_, rfl, a, C, dx, _, _, rfl, h1, R.cl, R.nB, fsR_bottom _ _, .inr ⟨b, rfl, lb, _, rfl, Nat.le_trans l3 big, q⟩⟩
theorem screpr : FnScope ["self"] ["self"] (defScope sRepr) := ⟨rfl, rfl, rfl, by decide +kernel, rfl, by decide +kernel, by decide +kernel⟩
theorem ok_repr {fS : Addr} {fdS : FuncData} (G : Glob mg) (R : RatF K C) (FS : DefAt K "__str__" "Ratio.__str__" sStr fS fdS) (M : OwnM K C "__str__" fS) (F : DefAt K "__repr__" "Ratio.__repr__" sRepr f fd) : FnOk P w K mg base CX0 4 f fd ["self"] (spStr C) := by
  have GS : FnOk P w K mg base CX0 1 fS fdS ["self"] (spStr C) := ok_str G R FS
  have bS : Binds K fdS ["self"] [] := FS.bindsN fun _ _ _ _ _ _ us hl => match us, hl with | [_], _ => rfl
  refine okN F screpr (fun vs H Q E ⟨a, t, b, e, _⟩ => by rw [e]; rfl) (fun cdv A outer s H vs Q E hr ⟨a, t, b, e, ha, st, sb, q⟩ => ?_)
  subst e
  refine ⟨_, pss_one (ps_ret (pe_callTy (call_strO M GS hr bS pass0) (by rfl) G.str (by decide +kernel) (pa_cons (pv 0) pa_nil))), ?_⟩
  obtain ⟨dx, h1⟩ := id ha
  exact ⟨_, rfl, a, dx, _, rfl, h1, a, t, b, rfl, ha, st, sb, _, rfl, q⟩
end
end K1

/-! is_ratio, Ratio.of, lists of ratios. -/
namespace K1
open PySem PySem.Spec PyProof.Rows L2 LamX

/-- what is_ratio tells: a Ratio or an integer, or an odd value -/
def spIsRatio (C : Addr) : Sp := fun vs H Q _ => ∃ v, vs = [v] ∧ ((∃ t b, RatV C H v t b ∧ Q (.bl true) H) ∨ (∃ T, Odd H v T ∧ Q (.bl false) H))
def spOf (C CB : Addr) : Sp := fun vs H Q E => ∃ v, vs = [v] ∧
  ((∃ t b, RatV C H v t b ∧ Sm 8000 t ∧ ∀ p H', Same H H' → RatAt C H' p t b → Q (.ref p) H') ∨ (∃ T, Odd H v T ∧ ∀ d H', Told H H' d "value" → E (.ref CB) (some d) H'))
structure HasIsR (P : Program) (w : World) (K : PySem.W.Frag) (mg : Str → Option Value) (base : Heap) (C : Addr) : Prop where
  h : ∃ f fd, mg "is_ratio" = some (.ref f) ∧ PySem.W.keepIn K (.ref f) = true ∧ Binds K fd ["value"] [] ∧ FnOk P w K mg base CX0 2 f fd ["value"] (spIsRatio C)
section
variable {P : Program} {w : World} {K : PySem.W.Frag} {mg : Str → Option Value} {base : Heap} {f C CB : Addr} {fd : FuncData}
theorem scIsR : FnScope ["value"] ["value"] (defScope sIsRatio) := ⟨rfl, rfl, rfl, by decide +kernel, rfl, by decide +kernel, by decide +kernel⟩
theorem ok_isR (G : Glob mg) (R : RatF K C) (HI : HasInt P w K mg base) (gR : mg "Ratio" = some (.ref C)) (F : DefAt K "is_ratio" "is_ratio" sIsRatio f fd) : FnOk P w K mg base CX0 2 f fd ["value"] (spIsRatio C) := by
  obtain ⟨fi, fdi, mI, kI, bI, GI⟩ := HI.h
  refine okN F scIsR (fun vs H Q E ⟨v, e, _⟩ => by rw [e]; rfl) (fun cdv A outer s H vs Q E hr ⟨v, e, h⟩ => ?_)
  subst e
  refine ⟨_, pss_one (ps_ret (pe_or (pe_callB call_isi (by rfl) G.isi (by decide +kernel) (pa_cons (pv 0) (pa_cons (pe_glob (v := .ref C) rfl gR rfl) pa_nil)))
    (pe_one (pe_call GI hr rfl mI kI bI .nil pass0 (pa_cons (pv 0) pa_nil))))), ?_⟩
  rcases h with ⟨t, b, hv, q⟩ | ⟨T, ho, q⟩
  · rcases hv with ⟨a, rfl, ha⟩ | ⟨rfl, rfl⟩
    · exact ⟨_, rfl, _, _, _, _, _, rfl, .own C, .base (ha.ty R), R.me, true, rfl, iteT q⟩
    · exact ⟨_, rfl, _, _, _, _, _, rfl, .own C, .base (.int t), R.int, false, rfl, iteF ⟨_, rfl, _, _, _, _, rfl, .int t, int1, int2, q⟩⟩
  · refine ⟨_, rfl, _, _, _, _, _, rfl, .own C, .base ho.ty, R.odd T ho.mem, false, rfl, iteF ?_⟩
    obtain ⟨ty, c, k1, k2, k3⟩ := ho.not (K := K)
    refine ⟨_, rfl, _, _, _, _, rfl, k1, k2, k3, ?_⟩
    rw [Bool.not_true, Bool.and_false]
    exact q
theorem scOf : FnScope ["value"] ["value"] (defScope sOf) := ⟨rfl, rfl, rfl, by decide +kernel, rfl, by decide +kernel, by decide +kernel⟩
theorem ok_of (B : BadR P w K mg base CB) (HR : HasRight P w K mg base C CB) (HQ : HasIsR P w K mg base C) (F : DefAt K "of" "Ratio.of" sOf f fd) : FnOk P w K mg base (L2.CX P w) 6 f fd ["value"] (spOf C CB) := by
  obtain ⟨fr, fdr, mR, kR, bR, GR⟩ := HR.h
  obtain ⟨fq, fdq, mQ, kQ, bQ, GQ⟩ := HQ.h
  refine okX F scOf (fun vs H Q E ⟨v, e, _⟩ => by rw [e]; rfl) (fun cdv A outer s H vs Q E hr ⟨v, e, h⟩ => ?_)
  subst e
  have tk : Takes (cxOf (L2.CX P w) P w K mg base ["value"] "Ratio.of" (defScope sOf) f cdv A outer s H E) (fun cls d _ H' => E cls d H') := takes_of rfl rfl rfl rfl
  have ps := passes_call tk (E := E) fun _ _ _ _ z => z
  refine ⟨_, pss_cons (ps_if (pt_not (pt_val (pe_call GQ (hr.mono (by decide)) rfl mQ kQ bQ .nil pass0 (pa_cons (pv 0) pa_nil)))) (pss_one (ps_bad B rfl tk (hr.mono (by decide)))) pss_nil)
    (pss_one (ps_ret (pe_call GR hr rfl mR kR bR .nil ps (pa_cons (pv 0) pa_nil)))), ?_⟩
  rcases h with ⟨t, b, hv, st, q⟩ | ⟨T, ho, q⟩
  · exact ⟨_, rfl, _, rfl, .inl ⟨t, b, hv, true, rfl, iteF ⟨_, rfl, _, rfl, .inl ⟨t, b, hv, st, q⟩⟩⟩⟩
  · exact ⟨_, rfl, _, rfl, .inr ⟨T, ho, false, rfl, iteT q⟩⟩
end

/-! ### lists of ratios -/
/-- each value of a list is a ratio: its top and bottom told -/
inductive RatL (C : Addr) (H : Hp) : List V → List (Int × Int) → Prop
  | nil : RatL C H [] []
  | cons {v : V} {t b : Int} {vs : List V} {rs : List (Int × Int)} : RatV C H v t b → RatL C H vs rs → RatL C H (v :: vs) ((t, b) :: rs)
theorem RatL.same {C : Addr} {H H' : Hp} {vs : List V} {rs : List (Int × Int)} (s : Same H H') (h : RatL C H vs rs) : RatL C H' vs rs := by
  induction h with
  | nil => exact .nil
  | cons a _ ih => exact .cons (a.same s) ih
theorem RatL.get {C : Addr} {H : Hp} {vs : List V} {rs : List (Int × Int)} (h : RatL C H vs rs) : ∀ {i : Nat} {v : V}, vs[i]? = some v → ∃ t b, rs[i]? = some (t, b) ∧ RatV C H v t b := by
  induction h with
  | nil => intro i v h; simp at h
  | cons a _ ih =>
    intro i v e
    cases i with
    | zero => simp at e; subst e; exact ⟨_, _, rfl, a⟩
    | succ i => exact ih (i := i) (by simpa using e)
theorem RatL.length {C : Addr} {H : Hp} {vs : List V} {rs : List (Int × Int)} (h : RatL C H vs rs) : rs.length = vs.length := by
  induction h with
  | nil => rfl
  | cons _ _ ih => simp [ih]
/-- a list or a tuple that stands at a -/
def SeqR (K : PySem.W.Frag) (H : Hp) (a : Addr) (xs : List V) : Prop := H a = some (.lst xs) ∨ H a = some (.tup xs)
end K1

/-! is_listed, _are_ratios, _some_ratios. -/
namespace K1
open PySem PySem.Spec PyProof.Rows L2 LamX

def spListed (K : PySem.W.Frag) : Sp := fun vs H Q _ => ∃ (v : V) (t : Value) (b : Bool), vs = [v] ∧ TyOf K H v t ∧ PySem.W.kitAny K t [.type "list", .type "tuple"] = some b ∧ ∀ H', Same H H' → Q (.bl b) H'
theorem is_list {K : PySem.W.Frag} : PySem.W.kitAny K (.type "list") [.type "list", .type "tuple"] = some true := kitAny_cons (kit_ty (b := "list") (r := true) (by decide +kernel)) (fun z => nomatch z) fun _ => rfl
theorem is_tup {K : PySem.W.Frag} : PySem.W.kitAny K (.type "tuple") [.type "list", .type "tuple"] = some true := kitAny_cons (kit_ty (b := "list") (r := false) (by decide +kernel)) (fun _ => kitAny_cons (kit_ty (b := "tuple") (r := true) (by decide +kernel)) (fun z => nomatch z) fun _ => rfl) fun z => nomatch z
structure HasListed (P : Program) (w : World) (K : PySem.W.Frag) (mg : Str → Option Value) (base : Heap) : Prop where
  h : ∃ f fd, mg "is_listed" = some (.ref f) ∧ PySem.W.keepIn K (.ref f) = true ∧ Binds K fd ["value"] [] ∧ FnOk P w K mg base CX0 1 f fd ["value"] (spListed K)
theorem yes_of {σ : L2.St} {H : Hp} {F G : Hp → Prop} (h : F H) : tYes σ H (fun b H' => if b = true then F H' else G H') := h
theorem upd_new {H : Hp} {a : Addr} {o : HO} (h : H a = none) : Same H (upd H a o) := fun b u e => by rw [upd_ne (ne_of_none e h)]; exact e
/-- each item is a ratio (true) or an odd value (false) -/
def Items (C : Addr) (H : Hp) (xs : List V) (bs : List Bool) : Prop := xs.length = bs.length ∧ ∀ (i : Nat) (v : V), xs[i]? = some v → ∃ b, bs[i]? = some b ∧ ((b = true ∧ ∃ t d, RatV C H v t d) ∨ (b = false ∧ ∃ T, Odd H v T))
theorem Items.same {C : Addr} {H H' : Hp} {xs : List V} {bs : List Bool} (s : Same H H') (h : Items C H xs bs) : Items C H' xs bs := by
  refine ⟨h.1, fun i v e => ?_⟩
  obtain ⟨b, e1, z⟩ := h.2 i v e
  refine ⟨b, e1, ?_⟩
  rcases z with ⟨z, t, d, r⟩ | ⟨z, T, o⟩
  · exact .inl ⟨z, t, d, r.same s⟩
  · exact .inr ⟨z, T, o.same s⟩
theorem take_bl {bs : List Bool} {i : Nat} {b : Bool} (h : bs[i]? = some b) : (bs.take i).map V.bl ++ [V.bl b] = (bs.take (i + 1)).map V.bl := by
  obtain ⟨hi, e⟩ := List.getElem?_eq_some_iff.mp h
  rw [List.take_succ_eq_append_getElem hi, List.map_append, e]
  rfl
/-- _are_ratios, _some_ratios: what stands at a, as a list or a tuple -/
def spAre (K : PySem.W.Frag) (C : Addr) : Sp := fun vs H Q _ => ∃ v, vs = [v] ∧
  ((∃ a xs bs, v = .ref a ∧ (H a = some (.lst xs) ∨ H a = some (.tup xs)) ∧ Items C H xs bs ∧ xs.length ≤ 100 ∧ ∀ H', Same H H' → Q (.bl (bs.all id)) H') ∨ (∃ a t b, v = .ref a ∧ RatAt C H a t b ∧ PySem.W.kitAny K (.ref C) [.type "list", .type "tuple"] = some false ∧ ∀ H', Same H H' → Q (.bl false) H'))
section
variable {P : Program} {w : World} {K : PySem.W.Frag} {mg : Str → Option Value} {base : Heap} {f C CB : Addr} {fd : FuncData}
theorem scListed : FnScope ["value"] ["value"] (defScope sIsListed) := ⟨rfl, rfl, rfl, by decide +kernel, rfl, by decide +kernel, by decide +kernel⟩
theorem ok_listed (G : Glob mg) (F : DefAt K "is_listed" "is_listed" sIsListed f fd) : FnOk P w K mg base CX0 1 f fd ["value"] (spListed K) := by
  refine okN F scListed (fun vs H Q E ⟨v, _, _, e, _⟩ => by rw [e]; rfl) (fun cdv A outer s H vs Q E hr ⟨v, t, b, e, ty, k, q⟩ => ?_)
  subst e
  refine ⟨_, pss_one (ps_ret (pe_callB call_isiT (by rfl) G.isi (by decide +kernel) (pa_cons (pv 0) (pa_cons (pe_tup (pa_cons (pe_bltn (by rfl) G.lst (by decide +kernel) (v := .ty "list") rfl) (pa_cons (pe_bltn (by rfl) G.tup (by decide +kernel) (v := .ty "tuple") rfl) pa_nil))) pa_nil)))), ?_⟩
  refine ⟨_, rfl, (by show 2 ≤ sizeLine; decide), fun p np => ?_⟩
  have s1 : Same H (upd H p (.tup [.ty "list", .ty "tuple"])) := upd_new np
  refine ⟨_, p, _, t, [.type "list", .type "tuple"], b, rfl, upd_same, .cons (.ty _) (.cons (.ty _) .nil), .base ?_, k, q _ s1⟩
  cases ty with
  | non => exact .non
  | bl x => exact .bl x
  | int i => exact .int i
  | str x => exact .str x
  | flt x => exact .flt x
  | lst e => exact .lst (s1 _ _ e)
  | frz e => exact .frz (s1 _ _ e)
  | tup e => exact .tup (s1 _ _ e)
  | dK e => exact .dK (s1 _ _ e)
  | dT e => exact .dT (s1 _ _ e)
  | ins e a b c d f => exact .ins (s1 _ _ e) a b c d f
theorem scAre : FnScope ["value", "item"] ["value"] (defScope sAreRatios) := ⟨rfl, rfl, rfl, by decide +kernel, rfl, by decide +kernel, by decide +kernel⟩
theorem ok_are (G : Glob mg) (R : RatF K C) (HL : HasListed P w K mg base) (HQ : HasIsR P w K mg base C) (F : DefAt K "_are_ratios" "_are_ratios" sAreRatios f fd) : FnOk P w K mg base CX0 3 f fd ["value"] (spAre K C) := by
  obtain ⟨fl, fdl, mL, kL, bL, GL⟩ := HL.h
  obtain ⟨fq, fdq, mQ, kQ, bQ, GQ⟩ := HQ.h
  refine okN F scAre (fun vs H Q E ⟨v, e, _⟩ => by rw [e]; rfl) (fun cdv A outer s H vs Q E hr ⟨v, e, h⟩ => ?_)
  subst e
  rcases h with ⟨a, xs, bs, rfl, h, it, hl, q⟩ | ⟨a, t, b, rfl, ha, k, q⟩
  · rcases h with h | h
    · refine ⟨_, pss_one (ps_ret (pe_and (pe_call GL (hr.mono (by decide)) rfl mL kL bL .nil pass0 (pa_cons (pv 0) pa_nil))
        (pe_one (pe_callB (cr_all rfl) (by rfl) G.all (by decide +kernel) (pa_cons
          (pe_lc (own := [("item", 1)]) (g := gName 1) (tt := tYes) rfl scAre.nd (pi_list (pv 0)) (blkOk_by (N := ["value", "item"]) (sc := defScope sAreRatios) (by decide +kernel))
            (fun _ _ _ _ _ => pg_name (i := 1) scAre.nd rfl (Or.inl rfl)) (fun _ _ _ _ _ => pts_nil) (fun _ _ _ _ _ => pe_call GQ hr rfl mQ kQ bQ .nil pass0 (pa_cons (pv 1) pa_nil))) pa_nil))))), ?_⟩
      refine ⟨_, rfl, _, _, _, rfl, .lst h, is_list, fun H1 s1 => ⟨true, rfl, iteT ?_⟩⟩
      refine ⟨_, rfl, a, rfl, ⟨_, SqL.of (s1 _ _ h)⟩, fun D hD => ?_⟩
      refine lc_list (K := K) (a := a) (xs := xs) (fun i H2 => Same H1 H2 ∧ H2 D = some (.lst ((bs.take i).map V.bl))) ⟨upd_new hD, by simpa using upd_same⟩ (fun i H2 _ z => SqL.of (z.1 _ _ (s1 _ _ h))) ?_ ?_
      · rintro i x H2 hx ⟨s2, h2⟩
        refine ⟨rfl, yes_of ?_⟩
        obtain ⟨b, eb, z⟩ := (it.same (s1.trans s2)).2 i x hx
        have fin : ∃ acc, H2 D = some (.lst acc) ∧ acc.length < sizeLine ∧ (Same H1 (upd H2 D (.lst (acc ++ [.bl b]))) ∧ upd H2 D (.lst (acc ++ [.bl b])) D = some (.lst ((bs.take (i + 1)).map V.bl))) := by
          refine ⟨_, h2, ?_, fun c o e => ?_, ?_⟩
          · have := (List.getElem?_eq_some_iff.mp hx).1
            rw [List.length_map, List.length_take, sizeLine_eq]
            omega
          · rw [upd_ne (ne_of_none e hD)]
            exact s2 c o e
          · rw [upd_same, take_bl eb]
        refine ⟨_, rfl, x, rfl, ?_⟩
        rcases z with ⟨rfl, t, d, r⟩ | ⟨rfl, T, o⟩
        · exact .inl ⟨t, d, r, fin⟩
        · exact .inr ⟨T, o, fin⟩
      · rintro H2 ⟨s2, h2⟩
        rw [it.1, List.take_length] at h2
        exact ⟨D, bs, rfl, SqL.of h2, q H2 (s1.trans s2)⟩
    · refine ⟨_, pss_one (ps_ret (pe_and (pe_call GL (hr.mono (by decide)) rfl mL kL bL .nil pass0 (pa_cons (pv 0) pa_nil))
        (pe_one (pe_callB (cr_all rfl) (by rfl) G.all (by decide +kernel) (pa_cons
          (pe_lc (own := [("item", 1)]) (g := gName 1) (tt := tYes) rfl scAre.nd (pi_tup (pv 0)) (blkOk_by (N := ["value", "item"]) (sc := defScope sAreRatios) (by decide +kernel))
            (fun _ _ _ _ _ => pg_name (i := 1) scAre.nd rfl (Or.inl rfl)) (fun _ _ _ _ _ => pts_nil) (fun _ _ _ _ _ => pe_call GQ hr rfl mQ kQ bQ .nil pass0 (pa_cons (pv 1) pa_nil))) pa_nil))))), ?_⟩
      refine ⟨_, rfl, _, _, _, rfl, .tup h, is_tup, fun H1 s1 => ⟨true, rfl, iteT ?_⟩⟩
      refine ⟨_, rfl, a, rfl, ⟨_, SqT.of (s1 _ _ h)⟩, fun D hD => ?_⟩
      refine lc_tup (K := K) (a := a) (xs := xs) (fun i H2 => Same H1 H2 ∧ H2 D = some (.lst ((bs.take i).map V.bl))) ⟨upd_new hD, by simpa using upd_same⟩ (fun i H2 _ z => SqT.of (z.1 _ _ (s1 _ _ h))) ?_ ?_
      · rintro i x H2 hx ⟨s2, h2⟩
        refine ⟨rfl, yes_of ?_⟩
        obtain ⟨b, eb, z⟩ := (it.same (s1.trans s2)).2 i x hx
        have fin : ∃ acc, H2 D = some (.lst acc) ∧ acc.length < sizeLine ∧ (Same H1 (upd H2 D (.lst (acc ++ [.bl b]))) ∧ upd H2 D (.lst (acc ++ [.bl b])) D = some (.lst ((bs.take (i + 1)).map V.bl))) := by
          refine ⟨_, h2, ?_, fun c o e => ?_, ?_⟩
          · have := (List.getElem?_eq_some_iff.mp hx).1
            rw [List.length_map, List.length_take, sizeLine_eq]
            omega
          · rw [upd_ne (ne_of_none e hD)]
            exact s2 c o e
          · rw [upd_same, take_bl eb]
        refine ⟨_, rfl, x, rfl, ?_⟩
        rcases z with ⟨rfl, t, d, r⟩ | ⟨rfl, T, o⟩
        · exact .inl ⟨t, d, r, fin⟩
        · exact .inr ⟨T, o, fin⟩
      · rintro H2 ⟨s2, h2⟩
        rw [it.1, List.take_length] at h2
        exact ⟨D, bs, rfl, SqL.of h2, q H2 (s1.trans s2)⟩
  · refine ⟨_, pss_one (ps_ret (pe_and (pe_call GL (hr.mono (by decide)) rfl mL kL bL .nil pass0 (pa_cons (pv 0) pa_nil))
        (pe_one (pe_callB (cr_all rfl) (by rfl) G.all (by decide +kernel) (pa_cons
          (pe_lc (own := [("item", 1)]) (g := gName 1) (tt := tYes) rfl scAre.nd (pi_list (pv 0)) (blkOk_by (N := ["value", "item"]) (sc := defScope sAreRatios) (by decide +kernel))
            (fun _ _ _ _ _ => pg_name (i := 1) scAre.nd rfl (Or.inl rfl)) (fun _ _ _ _ _ => pts_nil) (fun _ _ _ _ _ => pe_call GQ hr rfl mQ kQ bQ .nil pass0 (pa_cons (pv 1) pa_nil))) pa_nil))))), ?_⟩
    exact ⟨_, rfl, _, _, _, rfl, ha.ty R, k, fun H1 s1 => ⟨false, rfl, iteF (q H1 s1)⟩⟩
end
end K1

/-! _some_ratios, added. -/
namespace K1
open PySem PySem.Spec PyProof.Rows L2 LamX

theorem Sm.zero {k : Nat} : Sm k 0 := Nat.pow_pos (by decide)
structure HasAre (P : Program) (w : World) (K : PySem.W.Frag) (mg : Str → Option Value) (base : Heap) (C : Addr) : Prop where
  h : ∃ f fd, mg "_are_ratios" = some (.ref f) ∧ PySem.W.keepIn K (.ref f) = true ∧ Binds K fd ["value"] [] ∧ FnOk P w K mg base CX0 3 f fd ["value"] (spAre K C)
/-- a list or a tuple of values stands at a -/
def Seq (H : Hp) (a : Addr) (xs : List V) : Prop := H a = some (.lst xs) ∨ H a = some (.tup xs)
theorem Seq.same {H H' : Hp} {a : Addr} {xs : List V} (s : Same H H') (h : Seq H a xs) : Seq H' a xs := h.elim (fun h => .inl (s _ _ h)) fun h => .inr (s _ _ h)
theorem RatL.items {C : Addr} {H : Hp} {xs : List V} {rs : List (Int × Int)} (h : RatL C H xs rs) : Items C H xs (List.replicate xs.length true) := by
  refine ⟨by simp, fun i v e => ⟨true, ?_, .inl ⟨rfl, ?_⟩⟩⟩
  · have := (List.getElem?_eq_some_iff.mp e).1
    simp [this]
  · obtain ⟨t, b, _, r⟩ := h.get e
    exact ⟨t, b, r⟩
theorem all_true (n : Nat) : (List.replicate n true).all id = true := by induction n <;> simp_all [List.replicate]
/-- what cannot stand for some ratios: a Ratio; a list or tuple with an odd value -/
def NoRats (K : PySem.W.Frag) (C : Addr) (H : Hp) (v : V) : Prop := (∃ a xs bs, v = .ref a ∧ Seq H a xs ∧ Items C H xs bs ∧ xs.length ≤ 100 ∧ bs.all id = false) ∨ (∃ a t b, v = .ref a ∧ RatAt C H a t b ∧ PySem.W.kitAny K (.ref C) [.type "list", .type "tuple"] = some false)
def addP (p r : Int × Int) : Int × Int := (rT (p.1 * r.2 + r.1 * p.2) (p.2 * r.2), rB (p.1 * r.2 + r.1 * p.2) (p.2 * r.2))
def sumR (rs : List (Int × Int)) : Int × Int := rs.foldl addP (0, 1)
/-- each of few bits, no bottom 0 -/
def Few (rs : List (Int × Int)) : Prop := rs.length ≤ 20 ∧ ∀ r ∈ rs, Sm 100 r.1 ∧ Sm 100 r.2 ∧ r.2 ≠ 0
theorem Few.at_ {rs : List (Int × Int)} (h : Few rs) {i : Nat} {t b : Int} (e : rs[i]? = some (t, b)) : Sm 100 t ∧ Sm 100 b ∧ b ≠ 0 := h.2 (t, b) (List.mem_of_getElem? e)
theorem sumR_more {rs : List (Int × Int)} {i : Nat} {r : Int × Int} (h : rs[i]? = some r) : sumR (rs.take (i + 1)) = addP (sumR (rs.take i)) r := by
  obtain ⟨hi, e⟩ := List.getElem?_eq_some_iff.mp h
  unfold sumR
  rw [List.take_succ_eq_append_getElem hi, List.foldl_append, e]
  rfl
/-- added: the sum of them -/
def spAdded (K : PySem.W.Frag) (C CB : Addr) : Sp := fun vs H Q E => ∃ v, vs = [v] ∧
  ((∃ a xs rs, v = .ref a ∧ Seq H a xs ∧ RatL C H xs rs ∧ Few rs ∧ ∀ p H', Same H H' → RatAt C H' p (sumR rs).1 (sumR rs).2 → Q (.ref p) H') ∨ (NoRats K C H v ∧ ∀ d H', Told H H' d "ratios" → E (.ref CB) (some d) H'))
/-- _some_ratios: the very value -/
def spSome (K : PySem.W.Frag) (C CB : Addr) : Sp := fun vs H Q E => ∃ v, vs = [v] ∧
  ((∃ a xs rs, v = .ref a ∧ Seq H a xs ∧ RatL C H xs rs ∧ xs ≠ [] ∧ xs.length ≤ 100 ∧ ∀ H', Same H H' → Q v H') ∨ ((NoRats K C H v ∨ ∃ a, v = .ref a ∧ Seq H a []) ∧ ∀ d H', Told H H' d "ratios" → E (.ref CB) (some d) H'))
/-- a built-in class at the right of an operator of the class at C -/
def OpT (K : PySem.W.Frag) (C : Addr) (op : Operator) (T : String) : Prop := ∃ fo ro, PySem.W.findIn K (.type T) (PySem.dunder op.info.2) = some fo ∧ PySem.W.findIn K (.type T) (dunderR op.info.2) = some ro ∧ PySem.W.subIn K (.type T) (.ref C) = some false
/-- an operator of the class at C, as a def that is called -/
structure HasOp (P : Program) (w : World) (K : PySem.W.Frag) (mg : Str → Option Value) (base : Heap) (C : Addr) (op : Operator) (sp : Sp) : Prop where
  h : ∃ f fd, OwnM K C (PySem.dunder op.info.2) f ∧ Binds K fd ["self", "other"] [] ∧ FnOk P w K mg base (L2.CX P w) 6 f fd ["self", "other"] sp
  sf : PySem.W.selfFirst K C = true
  nr : PySem.W.findIn K (.ref C) (dunderR op.info.2) = some none
  t : ∀ T ∈ "int" :: kinds6, OpT K C op T
theorem RatV.right {K : PySem.W.Frag} {C : Addr} {H : Hp} {op : Operator} {v : V} {t b : Int} (o : ∀ T ∈ "int" :: kinds6, OpT K C op T) (h : RatV C H v t b) : RightO K C op v H := by
  rcases h with ⟨a, rfl, dx, h⟩ | ⟨rfl, rfl⟩
  · exact .inl ⟨a, dx, _, rfl, h⟩
  · obtain ⟨fo, ro, x, y, z⟩ := o "int" (.head _)
    exact .inr ⟨"int", fo, ro, .int t, x, y, z⟩
theorem Odd.right {K : PySem.W.Frag} {C : Addr} {H : Hp} {op : Operator} {v : V} {T : String} (o : ∀ T ∈ "int" :: kinds6, OpT K C op T) (h : Odd H v T) : RightO K C op v H := by
  obtain ⟨fo, ro, x, y, z⟩ := o T (.tail _ h.mem)
  exact .inr ⟨T, fo, ro, h.ty, x, y, z⟩
theorem RatAt.right {K : PySem.W.Frag} {C : Addr} {H : Hp} {op : Operator} {a : Addr} {t b : Int} (h : RatAt C H a t b) : RightO K C op (.ref a) H := let ⟨dx, h⟩ := h; .inl ⟨a, dx, _, rfl, h⟩
/-- _are_ratios, of what is no list of ratios -/
theorem are_no {K : PySem.W.Frag} {C : Addr} {H : Hp} {v : V} {Q : VK} {E : XK} (h : NoRats K C H v) (q : ∀ H', Same H H' → Q (.bl false) H') : spAre K C [v] H Q E := by
  rcases h with ⟨a, xs, bs, rfl, s, it, l, e⟩ | ⟨a, t, b, rfl, r, k⟩
  · exact ⟨_, rfl, .inl ⟨a, xs, bs, rfl, s, it, l, by rw [e]; exact q⟩⟩
  · exact ⟨_, rfl, .inr ⟨a, t, b, rfl, r, k, q⟩⟩
theorem are_yes {K : PySem.W.Frag} {C : Addr} {H : Hp} {a : Addr} {xs : List V} {rs : List (Int × Int)} {Q : VK} {E : XK} (s : Seq H a xs) (r : RatL C H xs rs) (l : xs.length ≤ 100) (q : ∀ H', Same H H' → Q (.bl true) H') : spAre K C [.ref a] H Q E :=
  ⟨_, rfl, .inl ⟨a, xs, _, rfl, s, r.items, l, by rw [all_true]; exact q⟩⟩
theorem seq_asg {te : TE} {g : TG} {T : TS} {D : Ends} {σ : L2.St} {H : Hp} (h : te σ H fun v H1 => g v σ H1 (T D)) : tSeq (tAsg te g) T D σ H := h
theorem mk_int {K : PySem.W.Frag} {C CB : Addr} {σ : L2.St} {H : Hp} {n : Int} {Q : VK} {E : XK} (hn : Sm 8000 n) (q : ∀ p H', Same H H' → H p = none → RatAt C H' p n 1 → Q (.ref p) H') : tMake C (spRI K C CB) [V.int 1] E (tCons (tC (V.int n)) tNil) σ H Q :=
  mk_new (by decide) hn (Sm.one (by decide)) fun p H' s hp r => by
    obtain ⟨e1, e2⟩ := red_one n
    rw [e1, e2] at r
    exact q p H' s hp r
theorem call1 {sp : Sp} {E : XK} {i : Nat} {σ : L2.St} {H : Hp} {Q : VK} {v : V} (hv : σ[i]? = some (some v)) (h : sp [v] H Q E) : tCall sp [] E (tCons (tVar i) tNil) σ H Q := ⟨v, hv, h⟩
section
variable {P : Program} {w : World} {K : PySem.W.Frag} {mg : Str → Option Value} {base : Heap} {f C CB : Addr} {fd : FuncData}
theorem scSome : FnScope ["ratios"] ["ratios"] (defScope sSomeRatios) := ⟨rfl, rfl, rfl, by decide +kernel, rfl, by decide +kernel, by decide +kernel⟩
theorem ok_some (G : Glob mg) (B : BadR P w K mg base CB) (HA : HasAre P w K mg base C) (F : DefAt K "_some_ratios" "_some_ratios" sSomeRatios f fd) : FnOk P w K mg base (L2.CX P w) 4 f fd ["ratios"] (spSome K C CB) := by
  obtain ⟨fa, fda, mA, kA, bA, GA⟩ := HA.h
  refine okX F scSome (fun vs H Q E ⟨v, e, _⟩ => by rw [e]; rfl) (fun cdv A outer s H vs Q E hr ⟨v, e, h⟩ => ?_)
  subst e
  have tk : Takes (cxOf (L2.CX P w) P w K mg base ["ratios"] "_some_ratios" (defScope sSomeRatios) f cdv A outer s H E) (fun cls d _ H' => E cls d H') := takes_of rfl rfl rfl rfl
  refine ⟨_, pss_cons (ps_if (PW.pt (pw_or (pt_not (pt_val (pe_call GA hr rfl mA kA bA .nil pass0 (pa_cons (pv 0) pa_nil)))) (pw_or1 (pt_cmpR op_eq (pe_callB call_len_seq (by rfl) G.len PySem.boot_len (pa_cons (pv 0) pa_nil)) pe_int (nomark _)))))
      (pss_one (ps_bad B rfl tk (hr.mono (by decide)))) pss_nil)
    (pss_one (ps_ret (pv 0))), ?_⟩
  have len0 : ∀ {n : Nat}, decide (V.int (n : Int) = V.int 0) = decide (n = 0) := fun {n} => by rw [decI]; by_cases z : n = 0 <;> simp [z]
  rcases h with ⟨a, xs, rs, rfl, sq, r, ne, l, q⟩ | ⟨h, q⟩
  · refine call1 (i := 0) rfl (are_yes sq r l fun H1 s1 => ?_)
    refine ⟨true, rfl, iteF ?_⟩
    refine ⟨_, rfl, a, xs, rfl, (sq.same s1).elim (fun z => .inl (SqL.of z)) (fun z => .inr (SqT.of z)), rfl, false, ?_, iteF ⟨_, rfl, q H1 s1⟩⟩
    rw [len0, decide_eq_false fun z => ne (List.length_eq_zero_iff.mp z)]
  · rcases h with h | ⟨a, rfl, sq⟩
    · refine call1 (i := 0) rfl (are_no h fun H1 s1 => ?_)
      exact ⟨false, rfl, iteT (iteT fun d H' z => q d H' (z.from s1))⟩
    · refine call1 (i := 0) rfl (are_yes (rs := []) sq .nil (by decide) fun H1 s1 => ?_)
      refine ⟨true, rfl, iteF ?_⟩
      refine ⟨_, rfl, a, [], rfl, (sq.same s1).elim (fun z => .inl (SqL.of z)) (fun z => .inr (SqT.of z)), rfl, true, ?_, iteT fun d H' z => q d H' (z.from s1)⟩
      rw [len0]; rfl

theorem scAdded : FnScope ["ratios", "total", "ratio"] ["ratios"] (defScope sAdded) := ⟨rfl, rfl, rfl, by decide +kernel, rfl, by decide +kernel, by decide +kernel⟩
/-- the sum so far -/
def SumI (C : Addr) (H : Hp) (p : Addr) (rs : List (Int × Int)) (i : Nat) : Prop := RatAt C H p (sumR (rs.take i)).1 (sumR (rs.take i)).2 ∧ Sm (1 + 101 * i) (sumR (rs.take i)).1 ∧ Sm (1 + 101 * i) (sumR (rs.take i)).2 ∧ (sumR (rs.take i)).2 ≠ 0
theorem sum_step {rs : List (Int × Int)} (hf : Few rs) {i : Nat} {t b : Int} (e : rs[i]? = some (t, b)) (h1 : Sm (1 + 101 * i) (sumR (rs.take i)).1) (h2 : Sm (1 + 101 * i) (sumR (rs.take i)).2) (h3 : (sumR (rs.take i)).2 ≠ 0) :
    Sm 3000 (sumR (rs.take i)).1 ∧ Sm 3000 (sumR (rs.take i)).2 ∧ Sm (1 + 101 * (i + 1)) (sumR (rs.take (i + 1))).1 ∧ Sm (1 + 101 * (i + 1)) (sumR (rs.take (i + 1))).2 ∧ (sumR (rs.take (i + 1))).2 ≠ 0 := by
  obtain ⟨s1, s2, s3⟩ := hf.at_ e
  have hi := (List.getElem?_eq_some_iff.mp e).1
  have hl := hf.1
  have m0 := Int.mul_ne_zero h3 s3
  refine ⟨h1.mono (by omega), h2.mono (by omega), ?_, ?_, ?_⟩
  · rw [sumR_more e]
    exact Sm.rT (Sm.mono (Sm.add (h1.mul s2) ((s1.mul h2).mono (by omega))) (by omega)) m0
  · rw [sumR_more e]
    exact Sm.rB (Sm.mono (h2.mul s2) (by omega)) m0
  · rw [sumR_more e]
    have := rB_pos (t := (sumR (rs.take i)).1 * b + t * (sumR (rs.take i)).2) m0
    exact fun z => by rw [show rB _ _ = 0 from z] at this; omega
theorem ok_added (B : BadR P w K mg base CB) (HA : HasAre P w K mg base C) (MR : MkR P w K mg base C CB) (HO : HasOp P w K mg base C .Add (spBin C CB (fun t b t2 b2 => t * b2 + t2 * b) (fun _ b _ b2 => b * b2))) (F : DefAt K "added" "added" sAdded f fd) :
    FnOk P w K mg base (L2.CX P w) 7 f fd ["ratios"] (spAdded K C CB) := by
  obtain ⟨fa, fda, mA, kA, bA, GA⟩ := HA.h
  obtain ⟨fm, fdm, ds, M, GM, _, hv, bM⟩ := MR.m
  obtain ⟨fo, fdo, MO, bO, GO⟩ := HO.h
  refine okX F scAdded (fun vs H Q E ⟨v, e, _⟩ => by rw [e]; rfl) (fun cdv A outer s H vs Q E hr ⟨v, e, h⟩ => ?_)
  subst e
  have tk : Takes (cxOf (L2.CX P w) P w K mg base ["ratios", "total", "ratio"] "added" (defScope sAdded) f cdv A outer s H E) (fun cls d _ H' => E cls d H') := takes_of rfl rfl rfl rfl
  have ps := passes_call tk (E := E) fun _ _ _ _ z => z
  rcases h with ⟨a, xs, rs, rfl, sq, r, hf, q⟩ | ⟨h, q⟩
  · rcases id sq with h | h
    · refine ⟨_, pss_cons (ps_if (pt_not (pt_val (pe_call GA (hr.mono (by decide)) rfl mA kA bA .nil pass0 (pa_cons (pv 0) pa_nil)))) (pss_one (ps_bad B rfl tk (hr.mono (by decide)))) pss_nil)
        (pss_cons (ps_set (i := 1) scAdded.nd rfl (Or.inl rfl) (pe_make M GM (hr.mono (by decide)) rfl MR.g bM hv ps (pa_cons pe_int pa_nil)))
        (pss_cons (ps_for (passes_of rfl) rfl (pi_list (pv 0)) (pg_name (i := 2) scAdded.nd rfl (Or.inl rfl)) (pss_one (ps_set (i := 1) scAdded.nd rfl (Or.inl rfl) (pe_op (op_own (op := .Add) MO HO.sf HO.nr GO hr bO ps) (pv 1) (pv 2)))))
        (pss_one (ps_ret (pv 1))))), ?_⟩
      refine call1 (i := 0) rfl (are_yes sq r (by rw [← r.length]; have := hf.1; omega) fun H1 s1 => ?_)
      refine ⟨true, rfl, iteF ?_⟩
      dsimp only [tNext]
      refine seq_asg ?_
      refine mk_int Sm.zero fun p H2 s2 _ hp => ?_
      have s02 := s1.trans s2
      refine ⟨_, rfl, a, rfl, ⟨_, SqL.of (s02 _ _ h)⟩, for_list (K := K) (a := a) (xs := xs) (fun i σ H3 => ∃ p' v', σ = [some (.ref a), some (.ref p'), v'] ∧ Same H H3 ∧ SumI C H3 p' rs i)
        ⟨p, none, rfl, s02, hp, Sm.zero, Sm.one (by decide), (by show (1 : Int) ≠ 0; decide)⟩ (fun i σ H3 _ ⟨_, _, _, s3, _⟩ => SqL.of (s3 _ _ h)) ?_ ?_⟩
      · rintro i x σ H3 hx ⟨p', v', rfl, s3, i1, i2, i3, i4⟩
        obtain ⟨t, b, et, rv⟩ := (r.same s3).get hx
        obtain ⟨k1, k2, k3, k4, k5⟩ := sum_step hf et i2 i3 i4
        obtain ⟨u1, u2, u3⟩ := hf.at_ et
        refine ⟨_, rfl, _, rfl, p', ?_⟩
        obtain ⟨dx, at1⟩ := id i1
        refine ⟨dx, _, rfl, at1, rv.right HO.t, p', x, _, _, rfl, i1, i4, .inl ⟨t, b, rv, u3, k1, k2, u1.mono (by decide), u2.mono (by decide), fun p2 H4 s4 _ hp2 => ?_⟩⟩
        refine ⟨p2, some x, rfl, s3.trans s4, ?_, k3, k4, k5⟩
        rw [sumR_more et]
        exact hp2
      · rintro σ H3 ⟨p', v', rfl, s3, i1, _⟩
        rw [← r.length, List.take_length] at i1
        exact ⟨_, rfl, q p' H3 s3 i1⟩
    · refine ⟨_, pss_cons (ps_if (pt_not (pt_val (pe_call GA (hr.mono (by decide)) rfl mA kA bA .nil pass0 (pa_cons (pv 0) pa_nil)))) (pss_one (ps_bad B rfl tk (hr.mono (by decide)))) pss_nil)
        (pss_cons (ps_set (i := 1) scAdded.nd rfl (Or.inl rfl) (pe_make M GM (hr.mono (by decide)) rfl MR.g bM hv ps (pa_cons pe_int pa_nil)))
        (pss_cons (ps_for (passes_of rfl) rfl (pi_tup (pv 0)) (pg_name (i := 2) scAdded.nd rfl (Or.inl rfl)) (pss_one (ps_set (i := 1) scAdded.nd rfl (Or.inl rfl) (pe_op (op_own (op := .Add) MO HO.sf HO.nr GO hr bO ps) (pv 1) (pv 2)))))
        (pss_one (ps_ret (pv 1))))), ?_⟩
      refine call1 (i := 0) rfl (are_yes sq r (by rw [← r.length]; have := hf.1; omega) fun H1 s1 => ?_)
      refine ⟨true, rfl, iteF ?_⟩
      dsimp only [tNext]
      refine seq_asg ?_
      refine mk_int Sm.zero fun p H2 s2 _ hp => ?_
      have s02 := s1.trans s2
      refine ⟨_, rfl, a, rfl, ⟨_, SqT.of (s02 _ _ h)⟩, for_tup (K := K) (a := a) (xs := xs) (fun i σ H3 => ∃ p' v', σ = [some (.ref a), some (.ref p'), v'] ∧ Same H H3 ∧ SumI C H3 p' rs i)
        ⟨p, none, rfl, s02, hp, Sm.zero, Sm.one (by decide), (by show (1 : Int) ≠ 0; decide)⟩ (fun i σ H3 _ ⟨_, _, _, s3, _⟩ => SqT.of (s3 _ _ h)) ?_ ?_⟩
      · rintro i x σ H3 hx ⟨p', v', rfl, s3, i1, i2, i3, i4⟩
        obtain ⟨t, b, et, rv⟩ := (r.same s3).get hx
        obtain ⟨k1, k2, k3, k4, k5⟩ := sum_step hf et i2 i3 i4
        obtain ⟨u1, u2, u3⟩ := hf.at_ et
        refine ⟨_, rfl, _, rfl, p', ?_⟩
        obtain ⟨dx, at1⟩ := id i1
        refine ⟨dx, _, rfl, at1, rv.right HO.t, p', x, _, _, rfl, i1, i4, .inl ⟨t, b, rv, u3, k1, k2, u1.mono (by decide), u2.mono (by decide), fun p2 H4 s4 _ hp2 => ?_⟩⟩
        refine ⟨p2, some x, rfl, s3.trans s4, ?_, k3, k4, k5⟩
        rw [sumR_more et]
        exact hp2
      · rintro σ H3 ⟨p', v', rfl, s3, i1, _⟩
        rw [← r.length, List.take_length] at i1
        exact ⟨_, rfl, q p' H3 s3 i1⟩
  · refine ⟨_, pss_cons (ps_if (pt_not (pt_val (pe_call GA (hr.mono (by decide)) rfl mA kA bA .nil pass0 (pa_cons (pv 0) pa_nil)))) (pss_one (ps_bad B rfl tk (hr.mono (by decide)))) pss_nil)
      (pss_cons (ps_set (i := 1) scAdded.nd rfl (Or.inl rfl) (pe_make M GM (hr.mono (by decide)) rfl MR.g bM hv ps (pa_cons pe_int pa_nil)))
      (pss_cons (ps_for (passes_of rfl) rfl (pi_list (pv 0)) (pg_name (i := 2) scAdded.nd rfl (Or.inl rfl)) (pss_one (ps_set (i := 1) scAdded.nd rfl (Or.inl rfl) (pe_op (op_own (op := .Add) MO HO.sf HO.nr GO hr bO ps) (pv 1) (pv 2)))))
      (pss_one (ps_ret (pv 1))))), ?_⟩
    refine call1 (i := 0) rfl (are_no h fun H1 s1 => ?_)
    exact ⟨false, rfl, iteT fun d H' z => q d H' (z.from s1)⟩
end
end K1

/-! greatest_of, least_of. -/
namespace K1
open PySem PySem.Spec PyProof.Rows L2 LamX

theorem fsR_none {t b : Int} {m : Str} (h1 : m ≠ "top") (h2 : m ≠ "bottom") : (fsR t b).lookup m = none := by unfold fsR; rw [lookup_putF, if_neg h2, lookup_putF, if_neg h1]; rfl
def maxP (g r : Int × Int) : Int × Int := if g.1 * r.2 < r.1 * g.2 then r else g
def maxR : List (Int × Int) → Int × Int
  | [] => (0, 1)
  | r :: rs => (r :: rs).foldl maxP r
theorem cmp_neg {m o : Int} : decide (cmpI m o < 0) = decide (m < o) := by
  unfold cmpI
  by_cases h : m = o
  · rw [if_pos h, h]; simp
  · rw [if_neg h]
    by_cases l : m < o
    · rw [if_pos l, decide_eq_true l]; rfl
    · rw [if_neg l, decide_eq_false l]; rfl
theorem fold_more {rs : List (Int × Int)} {i : Nat} {r0 r : Int × Int} (h : rs[i]? = some r) : (rs.take (i + 1)).foldl maxP r0 = maxP ((rs.take i).foldl maxP r0) r := by
  obtain ⟨hi, e⟩ := List.getElem?_eq_some_iff.mp h
  rw [List.take_succ_eq_append_getElem hi, List.foldl_append, e]
  rfl
theorem maxP_mem {rs : List (Int × Int)} {g r : Int × Int} (hg : g ∈ rs) (hr : r ∈ rs) : maxP g r ∈ rs := by
  unfold maxP
  split <;> assumption
structure HasOf (P : Program) (w : World) (K : PySem.W.Frag) (mg : Str → Option Value) (base : Heap) (C CB : Addr) : Prop where
  g : mg "Ratio" = some (.ref C)
  rd : ClX.CRead K C (.type "type")
  h : ∃ f fd, SMet K C "of" f ∧ Binds K fd ["value"] [] ∧ FnOk P w K mg base (L2.CX P w) 6 f fd ["value"] (spOf C CB)
structure HasBel (P : Program) (w : World) (K : PySem.W.Frag) (mg : Str → Option Value) (base : Heap) (C CB : Addr) : Prop where
  h : ∃ f fd, Meth K C "is_below" f ∧ Binds K fd ["self", "other"] [] ∧ FnOk P w K mg base (L2.CX P w) 7 f fd ["self", "other"] (spCmp C CB fun n => .bl (decide (n < 0)))
structure HasSome (P : Program) (w : World) (K : PySem.W.Frag) (mg : Str → Option Value) (base : Heap) (C CB : Addr) : Prop where
  h : ∃ f fd, mg "_some_ratios" = some (.ref f) ∧ PySem.W.keepIn K (.ref f) = true ∧ Binds K fd ["ratios"] [] ∧ FnOk P w K mg base (L2.CX P w) 4 f fd ["ratios"] (spSome K C CB)
/-- what cannot stand for some ratios, one at least -/
def NoSome (K : PySem.W.Frag) (C : Addr) (H : Hp) (v : V) : Prop := NoRats K C H v ∨ ∃ a, v = .ref a ∧ Seq H a []
def spBest (K : PySem.W.Frag) (C CB : Addr) (g : List (Int × Int) → Int × Int) : Sp := fun vs H Q E => ∃ v, vs = [v] ∧
  ((∃ a xs rs, v = .ref a ∧ Seq H a xs ∧ RatL C H xs rs ∧ Few rs ∧ xs ≠ [] ∧ ∀ p H', Same H H' → RatAt C H' p (g rs).1 (g rs).2 → Q (.ref p) H') ∨ (NoSome K C H v ∧ ∀ d H', Told H H' d "ratios" → E (.ref CB) (some d) H'))
theorem some_yes {K : PySem.W.Frag} {C CB : Addr} {H : Hp} {a : Addr} {xs : List V} {rs : List (Int × Int)} {Q : VK} {E : XK} (s : Seq H a xs) (r : RatL C H xs rs) (ne : xs ≠ []) (l : xs.length ≤ 100) (q : ∀ H', Same H H' → Q (.ref a) H') : spSome K C CB [.ref a] H Q E := ⟨_, rfl, .inl ⟨a, xs, rs, rfl, s, r, ne, l, q⟩⟩
theorem some_no {K : PySem.W.Frag} {C CB : Addr} {H : Hp} {v : V} {Q : VK} {E : XK} (h : NoSome K C H v) (q : ∀ d H', Told H H' d "ratios" → E (.ref CB) (some d) H') : spSome K C CB [v] H Q E := ⟨_, rfl, .inr ⟨h, q⟩⟩
section
variable {P : Program} {w : World} {K : PySem.W.Frag} {mg : Str → Option Value} {base : Heap} {f C CB : Addr} {fd : FuncData}
theorem scGreat : FnScope ["ratios", "told", "greatest", "ratio"] ["ratios"] (defScope sGreatest) := ⟨rfl, rfl, rfl, by decide +kernel, rfl, by decide +kernel, by decide +kernel⟩
theorem nm_bel : ("is_below" : Str) ≠ "top" ∧ ("is_below" : Str) ≠ "bottom" := by decide +kernel
theorem ok_great (R : RatF K C) (HS : HasSome P w K mg base C CB) (HF : HasOf P w K mg base C CB) (HB : HasBel P w K mg base C CB) (F : DefAt K "greatest_of" "greatest_of" sGreatest f fd) :
    FnOk P w K mg base (L2.CX P w) 8 f fd ["ratios"] (spBest K C CB maxR) := by
  obtain ⟨fs, fds, mS, kS, bS, GS⟩ := HS.h
  obtain ⟨ff, fdf, SF, bF, GF⟩ := HF.h
  obtain ⟨fb, fdb, MB, bB, GB⟩ := HB.h
  refine okX F scGreat (fun vs H Q E ⟨v, e, _⟩ => by rw [e]; rfl) (fun cdv A outer s H vs Q E hr ⟨v, e, h⟩ => ?_)
  subst e
  have tk : Takes (cxOf (L2.CX P w) P w K mg base ["ratios", "told", "greatest", "ratio"] "greatest_of" (defScope sGreatest) f cdv A outer s H E) (fun cls d _ H' => E cls d H') := takes_of rfl rfl rfl rfl
  have ps := passes_call tk (E := E) fun _ _ _ _ z => z
  rcases h with ⟨a, xs, rs, rfl, sq, r, hf, ne, q⟩ | ⟨h, q⟩
  · rcases id sq with h | h
    · refine ⟨_, pss_cons (ps_set (i := 1) scGreat.nd rfl (Or.inl rfl) (pe_call GS (hr.mono (by decide)) rfl mS kS bS .nil ps (pa_cons (pv 0) pa_nil)))
        (pss_cons (ps_set (i := 2) scGreat.nd rfl (Or.inl rfl) (pe_smeth (pe_glob (v := .ref C) rfl HF.g rfl) HF.rd SF GF (hr.mono (by decide)) bF ps (pa_cons (pe_ix ix_list (pv 1) pe_int (fun _ _ => rfl)) pa_nil)))
        (pss_cons (ps_for (passes_of rfl) rfl (pi_list (pv 1)) (pg_name (i := 3) scGreat.nd rfl (Or.inl rfl))
          (pss_one (ps_if (pt_val (pe_meth (pv 2) R.cl MB GB hr bB .nil ps (pa_cons (pv 3) pa_nil)))
            (pss_one (ps_set (i := 2) scGreat.nd rfl (Or.inl rfl) (pe_smeth (pe_glob (v := .ref C) rfl HF.g rfl) HF.rd SF GF (hr.mono (by decide)) bF ps (pa_cons (pv 3) pa_nil)))) pss_nil)))
        (pss_one (ps_ret (pv 2))))), ?_⟩
      have hl : xs.length ≤ 20 := by rw [← r.length]; exact hf.1
      refine call1 (i := 0) rfl (some_yes sq r ne (by omega) fun H1 s1 => ?_)
      dsimp only [gName, tNext]
      refine seq_asg ?_
      obtain ⟨x0, xr, rfl⟩ : ∃ x0 xr, xs = x0 :: xr := by
        cases xs with
        | nil => exact absurd rfl ne
        | cons a b => exact ⟨a, b, rfl⟩
      obtain ⟨t0, b0, e0, rv0⟩ := (r.same s1).get (i := 0) (v := x0) rfl
      obtain ⟨u1, u2, u3⟩ := hf.at_ e0
      have m0 : (t0, b0) ∈ rs := List.mem_of_getElem? e0
      have er : maxR rs = rs.foldl maxP (t0, b0) := by
        cases rs with
        | nil => simp at e0
        | cons r rs => simp at e0; subst e0; rfl
      rw [er] at q
      refine ⟨rfl, _, rfl, a, _, _, _, rfl, rfl, SqL.of (s1 _ _ h), atI_nat (j := 0) rfl, ?_⟩
      refine ⟨x0, rfl, .inl ⟨t0, b0, rv0, u1.mono (by decide), fun p H2 s2 hp => ?_⟩⟩
      have s02 := s1.trans s2
      refine ⟨_, rfl, a, rfl, ⟨_, SqL.of (s02 _ _ h)⟩, for_list (K := K) (a := a) (xs := x0 :: xr) (fun i σ H3 => ∃ p' v', σ = [some (.ref a), some (.ref a), some (.ref p'), v'] ∧ Same H H3 ∧ RatAt C H3 p' ((rs.take i).foldl maxP (t0, b0)).1 ((rs.take i).foldl maxP (t0, b0)).2 ∧ (rs.take i).foldl maxP (t0, b0) ∈ rs)
        ⟨p, none, rfl, s02, hp, m0⟩ (fun i σ H3 _ ⟨_, _, _, s3, _⟩ => SqL.of (s3 _ _ h)) ?_ ?_⟩
      · rintro i x σ H3 hx ⟨p', v', rfl, s3, i1, i2⟩
        obtain ⟨t, b, et, rv⟩ := (r.same s3).get hx
        obtain ⟨w1, w2, w3⟩ := hf.at_ et
        obtain ⟨y1, y2, y3⟩ := hf.2 _ i2
        obtain ⟨dx, at1⟩ := id i1
        have fm := fold_more (r0 := (t0, b0)) et
        refine ⟨_, rfl, p', dx, _, rfl, at1, fsR_none nm_bel.1 nm_bel.2, _, rfl, p', x, _, _, rfl, i1, .inl ⟨t, b, rv, y1.mono (by decide), y2.mono (by decide), w1.mono (by decide), w2.mono (by decide), fun H4 s4 => ?_⟩⟩
        refine ⟨_, rfl, ?_⟩
        rw [cmp_neg]
        by_cases lt : ((rs.take i).foldl maxP (t0, b0)).1 * b < t * ((rs.take i).foldl maxP (t0, b0)).2
        · rw [decide_eq_true lt]
          have e3 : (rs.take (i + 1)).foldl maxP (t0, b0) = (t, b) := by rw [fm]; exact if_pos lt
          refine iteT ⟨rfl, _, rfl, x, rfl, .inl ⟨t, b, rv.same s4, w1.mono (by decide), fun p2 H5 s5 hp2 => ?_⟩⟩
          refine ⟨p2, some x, rfl, (s3.trans s4).trans s5, ?_, ?_⟩
          · rw [e3]; exact hp2
          · rw [e3]; exact List.mem_of_getElem? et
        · rw [decide_eq_false lt]
          have e3 : (rs.take (i + 1)).foldl maxP (t0, b0) = (rs.take i).foldl maxP (t0, b0) := by rw [fm]; exact if_neg lt
          refine iteF ⟨p', some x, rfl, s3.trans s4, ?_, ?_⟩
          · rw [e3]; exact i1.same s4
          · rw [e3]; exact i2
      · rintro σ H3 ⟨p', v', rfl, s3, i1, _⟩
        rw [← r.length, List.take_length] at i1
        exact ⟨_, rfl, q p' H3 s3 i1⟩
    · refine ⟨_, pss_cons (ps_set (i := 1) scGreat.nd rfl (Or.inl rfl) (pe_call GS (hr.mono (by decide)) rfl mS kS bS .nil ps (pa_cons (pv 0) pa_nil)))
        (pss_cons (ps_set (i := 2) scGreat.nd rfl (Or.inl rfl) (pe_smeth (pe_glob (v := .ref C) rfl HF.g rfl) HF.rd SF GF (hr.mono (by decide)) bF ps (pa_cons (pe_ix ix_tup (pv 1) pe_int (fun _ _ => rfl)) pa_nil)))
        (pss_cons (ps_for (passes_of rfl) rfl (pi_tup (pv 1)) (pg_name (i := 3) scGreat.nd rfl (Or.inl rfl))
          (pss_one (ps_if (pt_val (pe_meth (pv 2) R.cl MB GB hr bB .nil ps (pa_cons (pv 3) pa_nil)))
            (pss_one (ps_set (i := 2) scGreat.nd rfl (Or.inl rfl) (pe_smeth (pe_glob (v := .ref C) rfl HF.g rfl) HF.rd SF GF (hr.mono (by decide)) bF ps (pa_cons (pv 3) pa_nil)))) pss_nil)))
        (pss_one (ps_ret (pv 2))))), ?_⟩
      have hl : xs.length ≤ 20 := by rw [← r.length]; exact hf.1
      refine call1 (i := 0) rfl (some_yes sq r ne (by omega) fun H1 s1 => ?_)
      dsimp only [gName, tNext]
      refine seq_asg ?_
      obtain ⟨x0, xr, rfl⟩ : ∃ x0 xr, xs = x0 :: xr := by
        cases xs with
        | nil => exact absurd rfl ne
        | cons a b => exact ⟨a, b, rfl⟩
      obtain ⟨t0, b0, e0, rv0⟩ := (r.same s1).get (i := 0) (v := x0) rfl
      obtain ⟨u1, u2, u3⟩ := hf.at_ e0
      have m0 : (t0, b0) ∈ rs := List.mem_of_getElem? e0
      have er : maxR rs = rs.foldl maxP (t0, b0) := by
        cases rs with
        | nil => simp at e0
        | cons r rs => simp at e0; subst e0; rfl
      rw [er] at q
      refine ⟨rfl, _, rfl, a, _, _, _, rfl, rfl, SqT.of (s1 _ _ h), atI_nat (j := 0) rfl, ?_⟩
      refine ⟨x0, rfl, .inl ⟨t0, b0, rv0, u1.mono (by decide), fun p H2 s2 hp => ?_⟩⟩
      have s02 := s1.trans s2
      refine ⟨_, rfl, a, rfl, ⟨_, SqT.of (s02 _ _ h)⟩, for_tup (K := K) (a := a) (xs := x0 :: xr) (fun i σ H3 => ∃ p' v', σ = [some (.ref a), some (.ref a), some (.ref p'), v'] ∧ Same H H3 ∧ RatAt C H3 p' ((rs.take i).foldl maxP (t0, b0)).1 ((rs.take i).foldl maxP (t0, b0)).2 ∧ (rs.take i).foldl maxP (t0, b0) ∈ rs)
        ⟨p, none, rfl, s02, hp, m0⟩ (fun i σ H3 _ ⟨_, _, _, s3, _⟩ => SqT.of (s3 _ _ h)) ?_ ?_⟩
      · rintro i x σ H3 hx ⟨p', v', rfl, s3, i1, i2⟩
        obtain ⟨t, b, et, rv⟩ := (r.same s3).get hx
        obtain ⟨w1, w2, w3⟩ := hf.at_ et
        obtain ⟨y1, y2, y3⟩ := hf.2 _ i2
        obtain ⟨dx, at1⟩ := id i1
        have fm := fold_more (r0 := (t0, b0)) et
        refine ⟨_, rfl, p', dx, _, rfl, at1, fsR_none nm_bel.1 nm_bel.2, _, rfl, p', x, _, _, rfl, i1, .inl ⟨t, b, rv, y1.mono (by decide), y2.mono (by decide), w1.mono (by decide), w2.mono (by decide), fun H4 s4 => ?_⟩⟩
        refine ⟨_, rfl, ?_⟩
        rw [cmp_neg]
        by_cases lt : ((rs.take i).foldl maxP (t0, b0)).1 * b < t * ((rs.take i).foldl maxP (t0, b0)).2
        · rw [decide_eq_true lt]
          have e3 : (rs.take (i + 1)).foldl maxP (t0, b0) = (t, b) := by rw [fm]; exact if_pos lt
          refine iteT ⟨rfl, _, rfl, x, rfl, .inl ⟨t, b, rv.same s4, w1.mono (by decide), fun p2 H5 s5 hp2 => ?_⟩⟩
          refine ⟨p2, some x, rfl, (s3.trans s4).trans s5, ?_, ?_⟩
          · rw [e3]; exact hp2
          · rw [e3]; exact List.mem_of_getElem? et
        · rw [decide_eq_false lt]
          have e3 : (rs.take (i + 1)).foldl maxP (t0, b0) = (rs.take i).foldl maxP (t0, b0) := by rw [fm]; exact if_neg lt
          refine iteF ⟨p', some x, rfl, s3.trans s4, ?_, ?_⟩
          · rw [e3]; exact i1.same s4
          · rw [e3]; exact i2
      · rintro σ H3 ⟨p', v', rfl, s3, i1, _⟩
        rw [← r.length, List.take_length] at i1
        exact ⟨_, rfl, q p' H3 s3 i1⟩
  · refine ⟨_, pss_cons (ps_set (i := 1) scGreat.nd rfl (Or.inl rfl) (pe_call GS (hr.mono (by decide)) rfl mS kS bS .nil ps (pa_cons (pv 0) pa_nil)))
        (pss_cons (ps_set (i := 2) scGreat.nd rfl (Or.inl rfl) (pe_smeth (pe_glob (v := .ref C) rfl HF.g rfl) HF.rd SF GF (hr.mono (by decide)) bF ps (pa_cons (pe_ix ix_list (pv 1) pe_int (fun _ _ => rfl)) pa_nil)))
        (pss_cons (ps_for (passes_of rfl) rfl (pi_list (pv 1)) (pg_name (i := 3) scGreat.nd rfl (Or.inl rfl))
          (pss_one (ps_if (pt_val (pe_meth (pv 2) R.cl MB GB hr bB .nil ps (pa_cons (pv 3) pa_nil)))
            (pss_one (ps_set (i := 2) scGreat.nd rfl (Or.inl rfl) (pe_smeth (pe_glob (v := .ref C) rfl HF.g rfl) HF.rd SF GF (hr.mono (by decide)) bF ps (pa_cons (pv 3) pa_nil)))) pss_nil)))
        (pss_one (ps_ret (pv 2))))), ?_⟩
    exact call1 (i := 0) rfl (some_no h q)
end
end K1

/-! least_of. -/
namespace K1
open PySem PySem.Spec PyProof.Rows L2 LamX

def negP (r : Int × Int) : Int × Int := (rT (-r.1) r.2, rB (-r.1) r.2)
def minR (rs : List (Int × Int)) : Int × Int := negP (maxR (rs.map negP))
theorem RatL.snoc {C : Addr} {H : Hp} {vs : List V} {rs : List (Int × Int)} {v : V} {t b : Int} (h : RatL C H vs rs) (hv : RatV C H v t b) : RatL C H (vs ++ [v]) (rs ++ [(t, b)]) := by
  induction h with
  | nil => exact .cons hv .nil
  | cons a _ ih => exact .cons a ih
theorem fold_mem {l : List (Int × Int)} : ∀ {rs : List (Int × Int)} {g : Int × Int}, g ∈ l → (∀ r ∈ rs, r ∈ l) → rs.foldl maxP g ∈ l
  | [], _, h, _ => h
  | r :: rs, g, h, hs => fold_mem (rs := rs) (maxP_mem h (hs r (.head _))) fun x hx => hs x (.tail _ hx)
theorem maxR_mem {rs : List (Int × Int)} (h : rs ≠ []) : maxR rs ∈ rs := by
  cases rs with
  | nil => exact absurd rfl h
  | cons r rs => exact fold_mem (l := r :: rs) (rs := r :: rs) (.head _) fun x hx => hx
theorem Few.neg {rs : List (Int × Int)} (h : Few rs) : Few (rs.map negP) := by
  refine ⟨by rw [List.length_map]; exact h.1, fun r hr => ?_⟩
  obtain ⟨x, hx, rfl⟩ := List.mem_map.mp hr
  obtain ⟨s1, s2, s3⟩ := h.2 x hx
  have := rB_pos (t := -x.1) s3
  exact ⟨Sm.rT s1.neg s3, Sm.rB s2 s3, fun z => by rw [show rB _ _ = 0 from z] at this; omega⟩
/-- -x, as a def that is called -/
structure HasNeg (P : Program) (w : World) (K : PySem.W.Frag) (mg : Str → Option Value) (base : Heap) (C : Addr) : Prop where
  h : ∃ f fd, OwnM K C "__neg__" f ∧ Binds K fd ["self"] [] ∧ FnOk P w K mg base (L2.CX P w) 5 f fd ["self"] (spUn C fun t => -t)
structure HasGreat (P : Program) (w : World) (K : PySem.W.Frag) (mg : Str → Option Value) (base : Heap) (C CB : Addr) : Prop where
  h : ∃ f fd, mg "greatest_of" = some (.ref f) ∧ PySem.W.keepIn K (.ref f) = true ∧ Binds K fd ["ratios"] [] ∧ FnOk P w K mg base (L2.CX P w) 8 f fd ["ratios"] (spBest K C CB maxR)
section
variable {P : Program} {w : World} {K : PySem.W.Frag} {mg : Str → Option Value} {base : Heap} {f C CB : Addr} {fd : FuncData}
theorem scLeast : FnScope ["ratios", "ratio"] ["ratios"] (defScope sLeast) := ⟨rfl, rfl, rfl, by decide +kernel, rfl, by decide +kernel, by decide +kernel⟩
theorem ok_least (R : RatF K C) (HS : HasSome P w K mg base C CB) (HF : HasOf P w K mg base C CB) (HN : HasNeg P w K mg base C) (HG : HasGreat P w K mg base C CB) (F : DefAt K "least_of" "least_of" sLeast f fd) :
    FnOk P w K mg base (L2.CX P w) 9 f fd ["ratios"] (spBest K C CB minR) := by
  obtain ⟨fs, fds, mS, kS, bS, GS⟩ := HS.h
  obtain ⟨ff, fdf, SF, bF, GF⟩ := HF.h
  obtain ⟨fn, fdn, MN, bN, GN⟩ := HN.h
  obtain ⟨fg, fdg, mG, kG, bG, GG⟩ := HG.h
  refine okX F scLeast (fun vs H Q E ⟨v, e, _⟩ => by rw [e]; rfl) (fun cdv A outer s H vs Q E hr ⟨v, e, h⟩ => ?_)
  subst e
  have tk : Takes (cxOf (L2.CX P w) P w K mg base ["ratios", "ratio"] "least_of" (defScope sLeast) f cdv A outer s H E) (fun cls d _ H' => E cls d H') := takes_of rfl rfl rfl rfl
  have ps := passes_call tk (E := E) fun _ _ _ _ z => z
  rcases h with ⟨a, xs, rs, rfl, sq, r, hf, ne, q⟩ | ⟨h, q⟩
  · rcases id sq with h | h
    · refine ⟨_, pss_one (ps_ret (pe_un (un_own MN GN (hr.mono (by decide)) bN ps) (pe_call GG hr rfl mG kG bG .nil ps (pa_cons
        (pe_lc (own := [("ratio", 1)]) (g := gName 1) (tt := tYes) rfl scLeast.nd (pi_list (pe_call GS (hr.mono (by decide)) rfl mS kS bS .nil ps (pa_cons (pv 0) pa_nil))) (blkOk_by (N := ["ratios", "ratio"]) (sc := defScope sLeast) (by decide +kernel))
          (fun _ _ _ _ _ => pg_name (i := 1) scLeast.nd rfl (Or.inl rfl)) (fun _ _ _ _ _ => pts_nil)
          (fun _ _ _ _ _ => pe_un (un_own MN GN (hr.mono (by decide)) bN passL) (pe_smeth (pe_glob (v := .ref C) rfl HF.g rfl) HF.rd SF GF (hr.mono (by decide)) bF passL (pa_cons (pv 1) pa_nil)))) pa_nil)))), ?_⟩
      have hl : xs.length ≤ 20 := by rw [← r.length]; exact hf.1
      refine call1 (i := 0) rfl (some_yes sq r ne (by omega) fun H1 s1 => ?_)
      refine ⟨a, rfl, ⟨_, SqL.of (s1 _ _ h)⟩, fun D hD => ?_⟩
      refine lc_list (K := K) (a := a) (xs := xs) (fun i H2 => Same H1 H2 ∧ ∃ ys, H2 D = some (.lst ys) ∧ RatL C H2 ys ((rs.take i).map negP)) ⟨upd_new hD, [], upd_same, .nil⟩ (fun i H2 _ z => SqL.of (z.1 _ _ (s1 _ _ h))) ?_ ?_
      · rintro i x H2 hx ⟨s2, ys, h2, r2⟩
        obtain ⟨t, b, et, rv⟩ := (r.same (s1.trans s2)).get hx
        obtain ⟨w1, w2, w3⟩ := hf.at_ et
        refine ⟨rfl, yes_of ?_⟩
        refine ⟨rfl, _, rfl, x, rfl, .inl ⟨t, b, rv, w1.mono (by decide), fun p H3 s3 hp => ?_⟩⟩
        obtain ⟨dx, at1⟩ := id hp
        refine ⟨p, dx, _, rfl, at1, p, t, b, rfl, hp, w3, w1.mono (by decide), w2.mono (by decide), fun p2 H4 s4 _ hp2 => ?_⟩
        have s24 := s3.trans s4
        have ly : ys.length ≤ 20 := by
          have := hf.1
          rw [← r2.length, List.length_map, List.length_take]
          omega
        refine ⟨ys, s24 _ _ h2, by rw [sizeLine_eq]; omega, fun c o e => ?_, ys ++ [.ref p2], upd_same, ?_⟩
        · rw [upd_ne (ne_of_none e hD)]
          exact s24 _ _ (s2 c o e)
        · have e5 : (rs.take (i + 1)).map negP = (rs.take i).map negP ++ [negP (t, b)] := by
            obtain ⟨hi, e⟩ := List.getElem?_eq_some_iff.mp et
            rw [List.take_succ_eq_append_getElem hi, List.map_append, e]
            rfl
          have nD : ∀ {q : Addr} {u v : Int}, RatAt C H4 q u v → RatAt C (upd H4 D (.lst (ys ++ [.ref p2]))) q u v := fun {q u v} ⟨dz, z⟩ => ⟨dz, by rw [upd_ne (fun e => by rw [e, s24 _ _ h2] at z; cases z)]; exact z⟩
          have up : ∀ {zs : List V} {us : List (Int × Int)}, RatL C H4 zs us → RatL C (upd H4 D (.lst (ys ++ [.ref p2]))) zs us := fun {zs us} z => by
            induction z with
            | nil => exact .nil
            | cons a _ ih =>
              refine .cons ?_ ih
              rcases a with ⟨q, e, z⟩ | z
              · exact .inl ⟨q, e, nD z⟩
              · exact .inr z
          rw [e5]
          exact (up (r2.same s24)).snoc (.inl ⟨p2, rfl, nD hp2⟩)
      · rintro H2 ⟨s2, ys, h2, r2⟩
        rw [← r.length, List.take_length] at r2
        have fn := hf.neg
        have ny : ys ≠ [] := fun z => by
          have l := r2.length
          rw [z, List.length_map, r.length] at l
          exact ne (List.length_eq_zero_iff.mp l)
        have nr : rs.map negP ≠ [] := fun z => by
          have l := r2.length
          rw [z] at l
          exact ny (List.length_eq_zero_iff.mp l.symm)
        obtain ⟨y1, y2, y3⟩ := fn.2 _ (maxR_mem nr)
        refine ⟨.ref D, rfl, .inl ⟨D, ys, _, rfl, .inl h2, r2, fn, ny, fun p H3 s3 hp => ?_⟩⟩
        obtain ⟨dx, at1⟩ := id hp
        refine ⟨p, dx, _, rfl, at1, p, _, _, rfl, hp, y3, y1.mono (by decide), y2.mono (by decide), fun p2 H4 s4 _ hp2 => ?_⟩
        exact q p2 H4 (((s1.trans s2).trans s3).trans s4) hp2
    · refine ⟨_, pss_one (ps_ret (pe_un (un_own MN GN (hr.mono (by decide)) bN ps) (pe_call GG hr rfl mG kG bG .nil ps (pa_cons
        (pe_lc (own := [("ratio", 1)]) (g := gName 1) (tt := tYes) rfl scLeast.nd (pi_tup (pe_call GS (hr.mono (by decide)) rfl mS kS bS .nil ps (pa_cons (pv 0) pa_nil))) (blkOk_by (N := ["ratios", "ratio"]) (sc := defScope sLeast) (by decide +kernel))
          (fun _ _ _ _ _ => pg_name (i := 1) scLeast.nd rfl (Or.inl rfl)) (fun _ _ _ _ _ => pts_nil)
          (fun _ _ _ _ _ => pe_un (un_own MN GN (hr.mono (by decide)) bN passL) (pe_smeth (pe_glob (v := .ref C) rfl HF.g rfl) HF.rd SF GF (hr.mono (by decide)) bF passL (pa_cons (pv 1) pa_nil)))) pa_nil)))), ?_⟩
      have hl : xs.length ≤ 20 := by rw [← r.length]; exact hf.1
      refine call1 (i := 0) rfl (some_yes sq r ne (by omega) fun H1 s1 => ?_)
      refine ⟨a, rfl, ⟨_, SqT.of (s1 _ _ h)⟩, fun D hD => ?_⟩
      refine lc_tup (K := K) (a := a) (xs := xs) (fun i H2 => Same H1 H2 ∧ ∃ ys, H2 D = some (.lst ys) ∧ RatL C H2 ys ((rs.take i).map negP)) ⟨upd_new hD, [], upd_same, .nil⟩ (fun i H2 _ z => SqT.of (z.1 _ _ (s1 _ _ h))) ?_ ?_
      · rintro i x H2 hx ⟨s2, ys, h2, r2⟩
        obtain ⟨t, b, et, rv⟩ := (r.same (s1.trans s2)).get hx
        obtain ⟨w1, w2, w3⟩ := hf.at_ et
        refine ⟨rfl, yes_of ?_⟩
        refine ⟨rfl, _, rfl, x, rfl, .inl ⟨t, b, rv, w1.mono (by decide), fun p H3 s3 hp => ?_⟩⟩
        obtain ⟨dx, at1⟩ := id hp
        refine ⟨p, dx, _, rfl, at1, p, t, b, rfl, hp, w3, w1.mono (by decide), w2.mono (by decide), fun p2 H4 s4 _ hp2 => ?_⟩
        have s24 := s3.trans s4
        have ly : ys.length ≤ 20 := by
          have := hf.1
          rw [← r2.length, List.length_map, List.length_take]
          omega
        refine ⟨ys, s24 _ _ h2, by rw [sizeLine_eq]; omega, fun c o e => ?_, ys ++ [.ref p2], upd_same, ?_⟩
        · rw [upd_ne (ne_of_none e hD)]
          exact s24 _ _ (s2 c o e)
        · have e5 : (rs.take (i + 1)).map negP = (rs.take i).map negP ++ [negP (t, b)] := by
            obtain ⟨hi, e⟩ := List.getElem?_eq_some_iff.mp et
            rw [List.take_succ_eq_append_getElem hi, List.map_append, e]
            rfl
          have nD : ∀ {q : Addr} {u v : Int}, RatAt C H4 q u v → RatAt C (upd H4 D (.lst (ys ++ [.ref p2]))) q u v := fun {q u v} ⟨dz, z⟩ => ⟨dz, by rw [upd_ne (fun e => by rw [e, s24 _ _ h2] at z; cases z)]; exact z⟩
          have up : ∀ {zs : List V} {us : List (Int × Int)}, RatL C H4 zs us → RatL C (upd H4 D (.lst (ys ++ [.ref p2]))) zs us := fun {zs us} z => by
            induction z with
            | nil => exact .nil
            | cons a _ ih =>
              refine .cons ?_ ih
              rcases a with ⟨q, e, z⟩ | z
              · exact .inl ⟨q, e, nD z⟩
              · exact .inr z
          rw [e5]
          exact (up (r2.same s24)).snoc (.inl ⟨p2, rfl, nD hp2⟩)
      · rintro H2 ⟨s2, ys, h2, r2⟩
        rw [← r.length, List.take_length] at r2
        have fn := hf.neg
        have ny : ys ≠ [] := fun z => by
          have l := r2.length
          rw [z, List.length_map, r.length] at l
          exact ne (List.length_eq_zero_iff.mp l)
        have nr : rs.map negP ≠ [] := fun z => by
          have l := r2.length
          rw [z] at l
          exact ny (List.length_eq_zero_iff.mp l.symm)
        obtain ⟨y1, y2, y3⟩ := fn.2 _ (maxR_mem nr)
        refine ⟨.ref D, rfl, .inl ⟨D, ys, _, rfl, .inl h2, r2, fn, ny, fun p H3 s3 hp => ?_⟩⟩
        obtain ⟨dx, at1⟩ := id hp
        refine ⟨p, dx, _, rfl, at1, p, _, _, rfl, hp, y3, y1.mono (by decide), y2.mono (by decide), fun p2 H4 s4 _ hp2 => ?_⟩
        exact q p2 H4 (((s1.trans s2).trans s3).trans s4) hp2
  · refine ⟨_, pss_one (ps_ret (pe_un (un_own MN GN (hr.mono (by decide)) bN ps) (pe_call GG hr rfl mG kG bG .nil ps (pa_cons
        (pe_lc (own := [("ratio", 1)]) (g := gName 1) (tt := tYes) rfl scLeast.nd (pi_list (pe_call GS (hr.mono (by decide)) rfl mS kS bS .nil ps (pa_cons (pv 0) pa_nil))) (blkOk_by (N := ["ratios", "ratio"]) (sc := defScope sLeast) (by decide +kernel))
          (fun _ _ _ _ _ => pg_name (i := 1) scLeast.nd rfl (Or.inl rfl)) (fun _ _ _ _ _ => pts_nil)
          (fun _ _ _ _ _ => pe_un (un_own MN GN (hr.mono (by decide)) bN passL) (pe_smeth (pe_glob (v := .ref C) rfl HF.g rfl) HF.rd SF GF (hr.mono (by decide)) bF passL (pa_cons (pv 1) pa_nil)))) pa_nil)))), ?_⟩
    exact call1 (i := 0) rfl (some_no h q)
end
end K1

/-! The texts of integers and ratios, as lists of signs. -/
namespace K1
open PySem PySem.Spec PyProof.Rows L2 LamX SX

/-- the signs of an integer -/
def intL (n : Int) : List Nat := if n < 0 then 45 :: TL.numL n.natAbs else TL.numL n.natAbs
theorem int_txt (n : Int) : Str.ofString (toString n) = S (intL n) := by
  cases n with
  | ofNat m =>
    have e : intL (Int.ofNat m) = TL.numL m := by
      unfold intL
      rw [if_neg (by have : (0 : Int) ≤ Int.ofNat m := Int.natCast_nonneg m; omega)]
      rfl
    rw [e]
    exact num_S m
  | negSucc m =>
    have e : intL (Int.negSucc m) = 45 :: TL.numL (m + 1) := by
      unfold intL
      rw [if_pos (Int.negSucc_lt_zero m)]
      rfl
    rw [e]
    refine TL.ext_tl ?_
    show (Str.ofString (toString (Int.negSucc m))).cps.toList = _
    rw [PyProof.Rows.signs_ofString]
    have t : toString (Int.negSucc m) = "-" ++ Nat.repr (m + 1) := rfl
    rw [t, String.toList_append, List.map_append]
    show [45] ++ (Nat.repr (m + 1)).toList.map Char.toNat = 45 :: (Nat.toDigits 10 (m + 1)).map Char.toNat
    rw [Nat.toList_repr]
    rfl
theorem intL_len {n : Int} {k : Nat} (hk : 0 < k) (h : n.natAbs < 10 ^ k) : 1 ≤ (intL n).length ∧ (intL n).length ≤ k + 1 ∧ 1 ≤ (TL.numL n.natAbs).length ∧ (TL.numL n.natAbs).length ≤ k := by
  have a := TL.numL_len hk h
  have b := List.length_pos_iff.mpr (TL.numL_ne n.natAbs)
  refine ⟨?_, ?_, b, a⟩
  · unfold intL; split
    · simp
    · exact b
  · unfold intL; split
    · rw [List.length_cons]; omega
    · omega
theorem int_reads {n : Int} (h : n.natAbs < 10 ^ 60) : intText? (S (intL n)) = some n := by
  obtain ⟨_, _, l1, l2⟩ := intL_len (by decide) h
  by_cases hn : n < 0
  · have e : intL n = 45 :: TL.numL n.natAbs := if_pos hn
    have z := intText_neg (x := S (intL n)) (cs := TL.numL n.natAbs) (by rw [e]) (TL.numL_digits _) (TL.numL_ne _) (by rw [S_len, e, List.length_cons]; omega)
    rw [z, TL.numL_val]
    congr 1
    omega
  · have e : intL n = TL.numL n.natAbs := if_neg hn
    have z := intText_digits (x := S (intL n)) (by rw [e]; exact TL.numL_digits _) (by rw [e]; exact TL.numL_ne _) (by rw [S_len, e]; omega)
    rw [z]
    show some ((NumText.digitsVal (intL n) : Nat) : Int) = _
    rw [e, TL.numL_val]
    congr 1
    omega
/-- its first digit is 0 just of 0 -/
theorem numL_zero {m : Nat} {r : List Nat} (h : TL.numL m = 48 :: r) : m = 0 := by
  induction m using Nat.strongRecOn generalizing r with
  | _ m ih =>
    by_cases hm : m < 10
    · rw [TL.numL_lt hm] at h
      injection h with h _
      omega
    · rw [TL.numL_step (by omega)] at h
      cases q : TL.numL (m / 10) with
      | nil => exact absurd q (TL.numL_ne _)
      | cons c t =>
        rw [q] at h
        injection h with h1 _
        rw [h1] at q
        have := ih (m / 10) (by omega) q
        omega
theorem starts_minus {l : List Nat} : Txt.startswith (S l) (S [45]) = decide (l.head? = some 45) := by
  unfold Txt.startswith Builtin.Str.subAt
  rw [S_len, S_len]
  cases l with
  | nil => rfl
  | cons c r =>
    show (decide (0 + 1 ≤ r.length + 1) && ((c :: r).toArray.extract 0 (0 + (S [45]).length) == [45].toArray)) = _
    have e : (c :: r).toArray.extract 0 (0 + (S [45]).length) = [c].toArray := by
      apply Array.ext'
      simp [S_len]
    rw [e, decide_eq_true (by omega : 0 + 1 ≤ r.length + 1), Bool.true_and]
    by_cases hc : c = 45
    · subst hc; rfl
    · have h1 : ¬ ((c :: r).head? = some 45) := by simp [hc]
      rw [decide_eq_false h1]
      refine beq_eq_false_iff_ne.mpr fun z => hc ?_
      have := congrArg Array.toList z
      simpa using this
theorem head_int {n : Int} : (decide ((intL n).head? = some 45)) = decide (n < 0) := by
  unfold intL
  by_cases h : n < 0
  · rw [if_pos h, decide_eq_true h]; rfl
  · rw [if_neg h, decide_eq_false h]
    refine decide_eq_false fun z => ?_
    have m := List.mem_of_mem_head? z
    exact TL.numL_free (s := 45) (.inl (by decide)) m
theorem digits_free {n : Int} {s : Nat} (h : s < 45 ∨ s = 46 ∨ s = 47 ∨ 57 < s) : s ∉ intL n := fun m => by
  unfold intL at m
  have f : s ∉ TL.numL n.natAbs := TL.numL_free (by omega)
  split at m
  · rcases List.mem_cons.mp m with z | z
    · omega
    · exact f z
  · exact f m
/-- the signs of a ratio -/
def ratL (t b : Int) : List Nat := if b = 1 then intL t else intL t ++ 47 :: intL b
theorem ratText_S (t b : Int) : ratText t b = S (ratL t b) := by
  unfold ratText ratL
  split
  · exact int_txt t
  · rw [int_txt, int_txt]
    have e : (Str.empty ++ S (intL t)) = S (intL t) := TL.ext_tl (by rw [TL.tl_append]; rfl)
    have e2 : Str.ofString "/" = S [47] := TL.ext_tl (by decide +kernel)
    rw [e, e2, S_cat, S_cat, List.append_assoc]
    rfl
end K1

/-! words_of, check_end, integer_in. -/
namespace K1
open PySem PySem.Spec PyProof.Rows L2 LamX SX

theorem FnOk.toR {P : Program} {w : World} {K : PySem.W.Frag} {mg : Str → Option Value} {base : Heap} {CX : CXT} {k : Nat} {f : Addr} {fd : FuncData} {ps : List Str} {sp : Sp} (F : FnOk P w K mg base CX k f fd ps sp) (b : Binds K fd ps []) : FnR P w K mg base CX k f sp :=
  fun A outer s H us vs Q E hr he rv h => F.run A outer s H { pos := us } us vs Q E hr he (by
    have e : us.length = ps.length := by
      rw [← F.len vs H Q E h]
      exact (rv.length).symm
    have z := b s us (he.mod.kin.keeps fun b o z => (he.bs b o z).1) (by rw [List.append_nil]; exact e)
    rw [List.append_nil] at z
    exact z) rv h
theorem str_sp : Str.ofString " " = S [32] := TL.ext_tl (by decide +kernel)
theorem str_slash : Str.ofString "/" = S [47] := TL.ext_tl (by decide +kernel)
theorem str_minus : Str.ofString "-" = S [45] := TL.ext_tl (by decide +kernel)
theorem str_zero : Str.ofString "0" = S [48] := TL.ext_tl (by decide +kernel)
theorem dig_mem {c : Nat} : c ∈ (Str.ofString "0123456789").cps.toList ↔ 48 ≤ c ∧ c ≤ 57 := by
  have e : (Str.ofString "0123456789").cps.toList = [48, 49, 50, 51, 52, 53, 54, 55, 56, 57] := by decide +kernel
  rw [e]
  simp only [List.mem_cons, List.not_mem_nil, or_false]
  omega
theorem let_mem {c : Nat} : c ∈ (Str.ofString "abcdefghijklmnopqrstuvwxyz").cps.toList ↔ 97 ≤ c ∧ c ≤ 122 := by
  have e : (Str.ofString "abcdefghijklmnopqrstuvwxyz").cps.toList = [97, 98, 99, 100, 101, 102, 103, 104, 105, 106, 107, 108, 109, 110, 111, 112, 113, 114, 115, 116, 117, 118, 119, 120, 121, 122] := by decide +kernel
  rw [e]
  simp only [List.mem_cons, List.not_mem_nil, or_false]
  omega
/-- the constants of checks.py -/
structure Consts (mg : Str → Option Value) : Prop where
  dig : ∃ u, mg "DIGITS" = some u ∧ RelV (.str (Str.ofString "0123456789")) u
  let_ : ∃ u, mg "LETTERS" = some u ∧ RelV (.str (Str.ofString "abcdefghijklmnopqrstuvwxyz")) u
  d60 : ∃ u, mg "MOST_DIGITS" = some u ∧ RelV (.int 60) u
  s12 : ∃ u, mg "MOST_SIGNS" = some u ∧ RelV (.int 12) u
theorem split_one {l : List Nat} (h : 32 ∉ l) : Txt.split (S l) (S [32]) = [S l] := by
  rw [split_S (by simp) (by decide), TL.spl_last1 h]
  rfl
theorem big1000 : (1000 : Nat) + 2 ≤ sizeLine := by decide +kernel

def spWordsOf : Sp := fun vs H Q _ => ∃ l : List Nat, vs = [.str (S l)] ∧ 32 ∉ l ∧ l.length ≤ 1000 ∧ ∀ p, H p = none → Q (.ref p) (upd H p (.lst [.str (S l)]))
def spCheckEnd (K : PySem.W.Frag) : Sp := fun vs H Q _ => ∃ (p : Addr) (xs : List V) (k : Int), vs = [.ref p, .int k] ∧ SqL K H p xs ∧ (xs.length : Int) ≤ k ∧ Q .non H
def spIntIn : Sp := fun vs H Q _ => ∃ n : Int, vs = [.str (S (intL n))] ∧ n.natAbs < 10 ^ 60 ∧ ∀ H', Same H H' → Q (.int n) H'
/-- the digits of an integer -/
def digL (n : Int) : List Nat := TL.numL n.natAbs
theorem intL_neg {n : Int} (h : n < 0) : intL n = 45 :: digL n := if_pos h
theorem intL_pos {n : Int} (h : ¬ n < 0) : intL n = digL n := if_neg h
theorem dig_all {n : Int} {c : Nat} (h : c ∈ digL n) : 48 ≤ c ∧ c ≤ 57 := TL.numL_digits n.natAbs c h
section
variable {P : Program} {w : World} {K : PySem.W.Frag} {mg : Str → Option Value} {base : Heap} {f C CB : Addr} {fd : FuncData}
theorem scWordsOf : FnScope ["text"] ["text"] (defScope sWordsOf) := ⟨rfl, rfl, rfl, by decide +kernel, rfl, by decide +kernel, by decide +kernel⟩
theorem ok_words (G : Glob mg) (F : DefAt K "words_of" "words_of" sWordsOf f fd) : FnOk P w K mg base CX0 1 f fd ["text"] spWordsOf := by
  refine okN F scWordsOf (fun vs H Q E ⟨v, e, _⟩ => by rw [e]; rfl) (fun cdv A outer s H vs Q E hr ⟨l, e, h1, h2, q⟩ => ?_)
  subst e
  refine ⟨_, pss_cons (ps_if (pt_not (pt_val (pe_callB call_isi (by rfl) G.isi (by decide +kernel) (pa_cons (pv 0) (pa_cons (pe_bltn (by rfl) G.str (by decide +kernel) (v := .ty "str") rfl) pa_nil))))) (pss_one ps_never) pss_nil)
    (pss_one (ps_ret (pe_split (pv 0) pe_str))), ?_⟩
  refine ⟨_, rfl, _, _, _, _, _, rfl, .ty "str", .base (.str (S l)), kit_ty (a := "str") (b := "str") (r := true) (by decide +kernel), true, rfl, ?_⟩
  refine iteF ⟨_, rfl, ⟨_, rfl⟩, _, _, rfl, rfl, ?_, ?_, fun p hp => ?_⟩
  · decide +kernel
  · rw [S_len]; exact Nat.le_trans (Nat.add_le_add_right h2 2) big1000
  · have e : Txt.split (S l) (Str.ofString " ") = [S l] := by rw [str_sp]; exact split_one h1
    rw [e]
    exact q p hp
theorem scCheckEnd : FnScope ["words", "at"] ["words", "at"] (defScope sCheckEnd) := ⟨rfl, rfl, rfl, by decide +kernel, rfl, by decide +kernel, by decide +kernel⟩
theorem ok_end (G : Glob mg) (F : DefAt K "check_end" "check_end" sCheckEnd f fd) : FnOk P w K mg base CX0 1 f fd ["words", "at"] (spCheckEnd K) := by
  refine okN F scCheckEnd (fun vs H Q E ⟨p, xs, k, e, _⟩ => by rw [e]; rfl) (fun cdv A outer s H vs Q E hr ⟨p, xs, k, e, h1, h2, q⟩ => ?_)
  subst e
  refine ⟨_, pss_one (ps_if (pt_cmpR op_lt (pv 1) (pe_callB call_len_seq (by rfl) G.len PySem.boot_len (pa_cons (pv 0) pa_nil)) (nomark _)) (pss_one ps_never) pss_nil), ?_⟩
  refine ⟨_, rfl, _, rfl, p, _, rfl, .inl h1, ?_⟩
  exact ⟨_, _, rfl, rfl, _, rfl, ite2 (fun z => absurd (of_decide_eq_true z) (by omega)) fun _ => q⟩
theorem scIntIn : FnScope ["word", "digits", "sign"] ["word"] (defScope sIntIn) := ⟨rfl, rfl, rfl, by decide +kernel, rfl, by decide +kernel, by decide +kernel⟩
theorem ok_intIn (G : Glob mg) (CO : Consts mg) (F : DefAt K "integer_in" "integer_in" sIntIn f fd) : FnOk P w K mg base CX0 1 f fd ["word"] spIntIn := by
  obtain ⟨ud, gd, rd⟩ := CO.dig
  obtain ⟨u6, g6, r6⟩ := CO.d60
  refine okN F scIntIn (fun vs H Q E ⟨v, e, _⟩ => by rw [e]; rfl) (fun cdv A outer s H vs Q E hr ⟨n, e, h1, q⟩ => ?_)
  subst e
  obtain ⟨l1, l2, l3, l4⟩ := intL_len (by decide) h1
  have line : (1000 : Nat) ≤ sizeLine := by decide +kernel
  refine ⟨_, pss_cons (ps_set (i := 1) scIntIn.nd rfl (Or.inl rfl) (pe_ifExp (pt_val (pe_m1 PySem.F.slot_str_startswith PySem.F.type_str_startswith mt_startswith (pv 0) pe_str)) (pe_slice C8.sl_txt (pv 0) (po_some pe_int) po_none) (pv 0)))
    (pss_cons (ps_if (PW.pt (pw_or (pt_not (pt_chain op_le op_le pe_int (pe_callB call_len_str (by rfl) G.len PySem.boot_len (pa_cons (pv 1) pa_nil)) (pe_glob (v := .int 60) rfl g6 r6)))
      (pw_or1 (pt_not (pt_val (pe_callB (cr_all rfl) (by rfl) G.all (by decide +kernel) (pa_cons
          (pe_lc (own := [("sign", 2)]) (g := gName 2) (tt := tYes) rfl scIntIn.nd (pi_str (pv 1)) (blkOk_by (N := ["word", "digits", "sign"]) (sc := defScope sIntIn) (by decide +kernel))
            (fun _ _ _ _ _ => pg_name (i := 2) scIntIn.nd rfl (Or.inl rfl)) (fun _ _ _ _ _ => pts_nil) (fun _ _ _ _ _ => pe_cmpR op_in_sign (pv 2) (pe_glob (v := .str (Str.ofString "0123456789")) rfl gd rd) rfl)) pa_nil))))))) (pss_one (ps_ret pe_non)) pss_nil)
    (pss_cons (ps_if (PW.pt (pw_and (pt_cmpR op_eq (pe_ix ix_str (pv 1) pe_int (fun _ _ => rfl)) pe_str (nomark _)) (pw_and1 (pt_cmpR op_ne (pv 0) pe_str (nomark _))))) (pss_one (ps_ret pe_non)) pss_nil)
    (pss_one (ps_ret (pe_callTy call_int_str (by rfl) G.int (by decide +kernel) (pa_cons (pv 0) pa_nil)))))), ?_⟩
  have hs : Txt.startswith (S (intL n)) (Str.ofString "-") = decide (n < 0) := by rw [str_minus, starts_minus, head_int]
  refine ⟨_, rfl, ⟨_, rfl⟩, _, _, rfl, rfl, _, rfl, ?_⟩
  rw [hs]
  have fin : True := trivial
  by_cases hn : n < 0
  case' pos =>
    rw [decide_eq_true hn]
    refine iteT ⟨_, rfl, 1, rfl, _, rfl, (by rw [S_len]; omega), ?_⟩
    rw [slice_from (by decide), intL_neg hn]
    show tSeq _ _ _ [some (.str (S (45 :: digL n))), some (.str (S (digL n))), none] H
    rw [← intL_neg hn]
  case' neg =>
    rw [decide_eq_false hn]
    refine iteF ⟨_, rfl, ?_⟩
    show tSeq _ _ _ [some (.str (S (intL n))), some (.str (S (intL n))), none] H
    rw [show (some (V.str (S (intL n))) :: some (V.str (S (intL n))) :: [none] : List (Option V)) = [some (V.str (S (intL n))), some (V.str (S (digL n))), none] from by rw [← intL_pos hn]]
  all_goals
    have z1 : (S (digL n)).length = (digL n).length := S_len _
    have b1 : (1 : Int) ≤ ((S (digL n)).length : Int) := by rw [z1]; unfold digL; omega
    have b2 : ((S (digL n)).length : Int) ≤ 60 := by rw [z1]; unfold digL; omega
    refine ⟨_, rfl, _, rfl, (by omega), _, _, rfl, rfl, _, rfl, ?_⟩
    rw [decide_eq_true b1]
    refine iteT ⟨_, _, rfl, rfl, _, rfl, ?_⟩
    rw [decide_eq_true b2]
    refine iteF ⟨_, rfl, _, rfl, fun D hD => ?_⟩
    refine lc_it walk_str (fun i H2 => Same H H2 ∧ H2 D = some (.lst (List.replicate i (.bl true)))) ⟨upd_new hD, by simpa using upd_same⟩ (fun _ _ _ _ => trivial) ?_ ?_
    · rintro i x H2 H3 hi ⟨s2, h2⟩ ⟨rfl, c, hc, rfl⟩
      refine ⟨rfl, yes_of ?_⟩
      have hcd : c ∈ digL n := by
        have : (S (digL n)).cps.toList[i]? = some c := by simpa using hc
        exact List.mem_of_getElem? this
      refine ⟨_, rfl, c, _, rfl, rfl, ?_⟩
      rw [decide_eq_true (dig_mem.mpr (dig_all hcd))]
      refine ⟨_, h2, ?_, fun a o e => ?_, ?_⟩
      · have : i < (digL n).length := by
          have h : (S (digL n)).cps.size = (digL n).length := z1
          omega
        rw [List.length_replicate, sizeLine_eq]
        unfold digL at this
        omega
      · rw [upd_ne (ne_of_none e hD)]
        exact s2 a o e
      · rw [upd_same]
        exact congrArg (fun z => some (HO.lst z)) List.replicate_succ'.symm
    · rintro H2 ⟨s2, h2⟩
      refine ⟨D, List.replicate (S (digL n)).cps.size true, rfl, SqL.of (by rw [h2]; simp), true, ?_, ?_⟩
      · simp
      refine iteF ?_
      obtain ⟨c, r, hcr⟩ : ∃ c r, digL n = c :: r := List.exists_cons_of_ne_nil (TL.numL_ne _)
      refine ⟨_, rfl, _, 0, c, rfl, rfl, (by omega), (by rw [hcr]; exact atI_nat (j := 0) rfl), (by rfl), _, rfl, ?_⟩
      by_cases hc : c = 48
      · subst hc
        have n0 : n = 0 := by have := numL_zero hcr; omega
        subst n0
        refine ite2 (fun _ => ?_) fun _ => ?_
        · refine ⟨_, rfl, (by rfl), _, rfl, ?_⟩
          have e : decide (V.str (S (intL 0)) = V.str (Str.ofString "0")) = true := decide_eq_true (by rw [str_zero]; rfl)
          rw [e]
          exact iteF ⟨_, rfl, _, _, rfl, int_reads h1, by rw [S_len]; omega, q _ s2⟩
        · exact ⟨_, rfl, _, _, rfl, int_reads h1, by rw [S_len]; omega, q _ s2⟩
      · have e : decide (V.str ⟨#[c]⟩ = V.str (Str.ofString "0")) = false := decide_eq_false fun z => by
          rw [str_zero] at z
          injection z with z
          have z2 : S [c] = S [48] := z
          have := S_inj z2
          simp at this
          exact hc this
        rw [e]
        refine iteF ?_
        exact ⟨_, rfl, _, _, rfl, int_reads h1, by rw [S_len]; omega, q _ s2⟩
end
end K1

/-! ratio_in, Ratio.read. -/
namespace K1
open PySem PySem.Spec PyProof.Rows L2 LamX SX

structure HasIntIn (P : Program) (w : World) (K : PySem.W.Frag) (mg : Str → Option Value) (base : Heap) : Prop where
  h : ∃ f fd, mg "integer_in" = some (.ref f) ∧ PySem.W.keepIn K (.ref f) = true ∧ Binds K fd ["word"] [] ∧ FnOk P w K mg base CX0 1 f fd ["word"] spIntIn
structure HasWords (P : Program) (w : World) (K : PySem.W.Frag) (mg : Str → Option Value) (base : Heap) : Prop where
  h : ∃ f fd, mg "words_of" = some (.ref f) ∧ PySem.W.keepIn K (.ref f) = true ∧ Binds K fd ["text"] [] ∧ FnOk P w K mg base CX0 1 f fd ["text"] spWordsOf
structure HasEnd (P : Program) (w : World) (K : PySem.W.Frag) (mg : Str → Option Value) (base : Heap) : Prop where
  h : ∃ f fd, mg "check_end" = some (.ref f) ∧ PySem.W.keepIn K (.ref f) = true ∧ Binds K fd ["words", "at"] [] ∧ FnOk P w K mg base CX0 1 f fd ["words", "at"] (spCheckEnd K)

/-- a ratio in lowest terms whose numbers have 60 digits at most -/
structure Low (t b : Int) : Prop where
  t60 : t.natAbs < 10 ^ 60
  b60 : b.natAbs < 10 ^ 60
  pos : 0 < b
  cop : Nat.gcd t.natAbs b.natAbs = 1
theorem Low.red {t b : Int} (h : Low t b) : rT t b = t ∧ rB t b = b := red_low h.pos h.cop
theorem Sm.of60 {n : Int} (h : n.natAbs < 10 ^ 60) : Sm 200 n := Nat.lt_trans h (by decide +kernel)
theorem slash_in (t b : Int) : (47 ∈ ratL t b) ↔ b ≠ 1 := by
  unfold ratL
  split
  · rename_i h
    exact ⟨fun z => absurd z (digits_free (.inr (.inr (.inl rfl)))), fun z => absurd h z⟩
  · rename_i h
    exact ⟨fun _ => h, fun _ => by simp⟩
theorem ratL_free {t b : Int} {s : Nat} (h : s < 45 ∨ s = 46 ∨ 57 < s) : s ∉ ratL t b := by
  unfold ratL
  have f : ∀ n : Int, s ∉ intL n := fun n => digits_free (by omega)
  split
  · exact f t
  · intro z
    rcases List.mem_append.mp z with z | z
    · exact f t z
    · rcases List.mem_cons.mp z with z | z
      · omega
      · exact f b z
theorem ratL_len {t b : Int} (h : Low t b) : (ratL t b).length ≤ 200 := by
  obtain ⟨_, l1, _, _⟩ := intL_len (by decide) h.t60
  obtain ⟨_, l2, _, _⟩ := intL_len (by decide) h.b60
  unfold ratL
  split
  · omega
  · rw [List.length_append, List.length_cons]; omega
theorem ratL_part {t b : Int} (h : b ≠ 1) : Txt.partition (S (ratL t b)) (S [47]) = (S (intL t), S [47], S (intL b)) := by
  have e : ratL t b = intL t ++ (47 :: [] ++ intL b) := by unfold ratL; rw [if_neg h]; rfl
  exact partition_some (by simp) (by rw [e, TL.par_part1 (digits_free (.inr (.inr (.inl rfl))))]; rfl)

def spRatioIn (C : Addr) : Sp := fun vs H Q _ => ∃ t b : Int, vs = [.str (S (ratL t b))] ∧ Low t b ∧ ∀ p H', Same H H' → H p = none → RatAt C H' p t b → Q (.ref p) H'
section
variable {P : Program} {w : World} {K : PySem.W.Frag} {mg : Str → Option Value} {base : Heap} {f C CB : Addr} {fd : FuncData}
theorem scRatioIn : FnScope ["word", "whole", "above", "_", "below", "top", "bottom"] ["word"] (defScope sRatioIn) := ⟨rfl, rfl, rfl, by decide +kernel, rfl, by decide +kernel, by decide +kernel⟩
theorem ok_ratioIn (G : Glob mg) (HI : HasIntIn P w K mg base) (MR : MkR P w K mg base C CB) (F : DefAt K "ratio_in" "ratio_in" sRatioIn f fd) : FnOk P w K mg base (L2.CX P w) 5 f fd ["word"] (spRatioIn C) := by
  obtain ⟨fi, fdi, mI, kI, bI, GI⟩ := HI.h
  obtain ⟨fm, fdm, ds, M, GM, bM0, hv, bM⟩ := MR.m
  refine okX F scRatioIn (fun vs H Q E ⟨t, b, e, _⟩ => by rw [e]; rfl) (fun cdv A outer s H vs Q E hr ⟨t, b, e, lo, q⟩ => ?_)
  subst e
  have tk : Takes (cxOf (L2.CX P w) P w K mg base ["word", "whole", "above", "_", "below", "top", "bottom"] "ratio_in" (defScope sRatioIn) f cdv A outer s H E) (fun cls d _ H' => E cls d H') := takes_of rfl rfl rfl rfl
  have ps := passes_call tk (E := E) fun _ _ _ _ z => z
  refine ⟨_, pss_cons (ps_if (pt_cmpR op_notin_str pe_str (pv 0) (by rfl))
      (pss_cons (ps_set (i := 1) scRatioIn.nd rfl (Or.inl rfl) (pe_call GI (hr.mono (by decide)) rfl mI kI bI .nil pass0 (pa_cons (pv 0) pa_nil)))
        (pss_one (ps_ret (pe_ifExp (pt_cmpR op_isN (pv 1) pe_non (nomark _)) pe_non (pe_make M GM hr rfl MR.g bM hv ps (pa_cons (pv 1) pa_nil)))))) pss_nil)
    (pss_cons (ps_asg (pe_partition (pv 0) pe_str) (pg_tup (by rfl) (pgs_cons (pg_name (i := 2) scRatioIn.nd rfl (Or.inl rfl)) (pgs_cons (pg_name (i := 3) scRatioIn.nd rfl (Or.inl rfl)) (pgs_cons (pg_name (i := 4) scRatioIn.nd rfl (Or.inl rfl)) pgs_nil)))))
    (pss_cons (ps_set (i := 5) scRatioIn.nd rfl (Or.inl rfl) (pe_call GI (hr.mono (by decide)) rfl mI kI bI .nil pass0 (pa_cons (pv 2) pa_nil)))
    (pss_cons (ps_set (i := 6) scRatioIn.nd rfl (Or.inl rfl) (pe_call GI (hr.mono (by decide)) rfl mI kI bI .nil pass0 (pa_cons (pv 4) pa_nil)))
    (pss_cons (ps_if (PW.pt (pw_or (pt_cmpR op_isN (pv 5) pe_non (nomark _)) (pw_or (pt_cmpR op_isN (pv 6) pe_non (nomark _)) (pw_or (pt_cmpR op_lt (pv 6) pe_int (nomark _))
      (pw_or1 (pt_cmpR op_ne (pe_callBfun cr_gcd (by rfl) G.gcd (pa_cons (pv 5) (pa_cons (pv 6) pa_nil))) pe_int (nomark _))))))) (pss_one (ps_ret pe_non)) pss_nil)
    (pss_one (ps_ret (pe_make M GM hr rfl MR.g bM0 .nil ps (pa_cons (pv 5) (pa_cons (pv 6) pa_nil))))))))), ?_⟩
  obtain ⟨e1, e2⟩ := lo.red
  refine ⟨_, rfl, _, _, rfl, rfl, _, rfl, ?_⟩
  have hs : (!(!(Builtin.Str.occurrences (S (ratL t b)) (Str.ofString "/") 0 (S (ratL t b)).length 1).isEmpty)) = !decide (47 ∈ ratL t b) := by
    rw [str_slash]
    exact congrArg Bool.not (in_one (ratL t b) 47)
  rw [hs]
  by_cases hb : b = 1
  · have n47 : ¬ 47 ∈ ratL t b := fun z => (slash_in t b).mp z hb
    rw [decide_eq_false n47]
    subst hb
    have el : ratL t 1 = intL t := if_pos rfl
    refine iteT ?_
    rw [el]
    refine ⟨_, rfl, t, rfl, lo.t60, fun H1 s1 => ?_⟩
    refine ⟨_, rfl, rfl, _, rfl, iteF ⟨_, rfl, mk_new (by decide) (Sm.of60 lo.t60 |>.mono (by decide)) (Sm.one (by decide)) fun p H2 s2 n2 hp => ?_⟩⟩
    obtain ⟨e1, e2⟩ := red_one t
    rw [e1, e2] at hp
    exact q p H2 (s1.trans s2) (s1.free n2) hp
  · have y47 : 47 ∈ ratL t b := (slash_in t b).mpr hb
    rw [decide_eq_true y47]
    refine iteF ?_
    have ln := ratL_len lo
    have big := big1000
    refine ⟨_, rfl, ⟨_, rfl⟩, _, _, rfl, rfl, (by decide +kernel), (by rw [S_len]; omega), fun T hT => ?_⟩
    have ep : Txt.partition (S (ratL t b)) (Str.ofString "/") = (S (intL t), S [47], S (intL b)) := by rw [str_slash]; exact ratL_part hb
    rw [ep]
    have s0 : Same H (upd H T (.tup [.str (S (intL t)), .str (S [47]), .str (S (intL b))])) := upd_new hT
    refine ⟨T, _, rfl, SqT.of upd_same, rfl, _, _, rfl, _, _, rfl, _, _, rfl, rfl, ?_⟩
    refine ⟨_, rfl, t, rfl, lo.t60, fun H1 s1 => ?_⟩
    refine ⟨_, rfl, b, rfl, lo.b60, fun H2 s2 => ?_⟩
    have b2 : decide (b < 2) = false := decide_eq_false (by have := lo.pos; omega)
    have c1 : decide (V.int ((Nat.gcd t.natAbs b.natAbs : Nat) : Int) = V.int 1) = true := decide_eq_true (by rw [lo.cop]; rfl)
    refine ⟨_, rfl, rfl, _, rfl, iteF ⟨_, rfl, rfl, _, rfl, iteF ⟨_, rfl, _, _, rfl, rfl, _, rfl, ?_⟩⟩⟩
    rw [b2]
    refine iteF ⟨_, rfl, _, rfl, _, _, rfl, rfl, _, rfl, ?_⟩
    rw [c1]
    refine iteF ⟨_, rfl, _, rfl, mk_new (by have := lo.pos; omega) (Sm.of60 lo.t60 |>.mono (by decide)) (Sm.of60 lo.b60 |>.mono (by decide)) fun p H3 s3 n3 hp => ?_⟩
    rw [e1, e2] at hp
    have s03 := ((s0.trans s1).trans s2)
    exact q p H3 (s03.trans s3) (s03.free n3) hp

end
structure HasRatIn (P : Program) (w : World) (K : PySem.W.Frag) (mg : Str → Option Value) (base : Heap) (C : Addr) : Prop where
  h : ∃ f fd, mg "ratio_in" = some (.ref f) ∧ PySem.W.keepIn K (.ref f) = true ∧ Binds K fd ["word"] [] ∧ FnOk P w K mg base (L2.CX P w) 5 f fd ["word"] (spRatioIn C)
def spRead (C : Addr) : Sp := fun vs H Q _ => ∃ (c : V) (t b : Int), vs = [c, .str (S (ratL t b))] ∧ Low t b ∧ ∀ p H', Same H H' → H p = none → RatAt C H' p t b → Q (.ref p) H'
section
variable {P : Program} {w : World} {K : PySem.W.Frag} {mg : Str → Option Value} {base : Heap} {f C CB : Addr} {fd : FuncData}
theorem scRead : FnScope ["cls", "text", "words", "ratio"] ["cls", "text"] (defScope sRead) := ⟨rfl, rfl, rfl, by decide +kernel, rfl, by decide +kernel, by decide +kernel⟩
theorem ok_read (HW : HasWords P w K mg base) (HE : HasEnd P w K mg base) (HI : HasRatIn P w K mg base C) (F : DefAt K "read" "Ratio.read" sRead f fd) : FnOk P w K mg base (L2.CX P w) 6 f fd ["cls", "text"] (spRead C) := by
  obtain ⟨fw, fdw, mW, kW, bW, GW⟩ := HW.h
  obtain ⟨fe, fde, mE, kE, bE, GE⟩ := HE.h
  obtain ⟨fi, fdi, mI, kI, bI, GI⟩ := HI.h
  refine okX F scRead (fun vs H Q E ⟨c, t, b, e, _⟩ => by rw [e]; rfl) (fun cdv A outer s H vs Q E hr ⟨c, t, b, e, lo, q⟩ => ?_)
  subst e
  have tk : Takes (cxOf (L2.CX P w) P w K mg base ["cls", "text", "words", "ratio"] "Ratio.read" (defScope sRead) f cdv A outer s H E) (fun cls d _ H' => E cls d H') := takes_of rfl rfl rfl rfl
  have ps := passes_call tk (E := E) fun _ _ _ _ z => z
  refine ⟨_, pss_cons (ps_set (i := 2) scRead.nd rfl (Or.inl rfl) (pe_call GW (hr.mono (by decide)) rfl mW kW bW .nil pass0 (pa_cons (pv 1) pa_nil)))
    (pss_cons (ps_set (i := 3) scRead.nd rfl (Or.inl rfl) (pe_call GI hr rfl mI kI bI .nil ps (pa_cons (pe_ix ix_list (pv 2) pe_int (fun _ _ => rfl)) pa_nil)))
    (pss_cons (ps_if (pt_cmpR op_isN (pv 3) pe_non (nomark _)) (pss_one ps_never) pss_nil)
    (pss_cons (ps_expr (pe_call GE (hr.mono (by decide)) rfl mE kE bE .nil pass0 (pa_cons (pv 2) (pa_cons pe_int pa_nil))))
    (pss_one (ps_ret (pv 3)))))), ?_⟩
  refine ⟨_, rfl, ratL t b, rfl, ratL_free (.inl (by decide)), (by have := ratL_len lo; omega), fun W hW => ?_⟩
  have s0 : Same H (upd H W (.lst [.str (S (ratL t b))])) := upd_new hW
  refine ⟨_, rfl, W, _, 0, _, rfl, rfl, SqL.of upd_same, atI_nat (j := 0) rfl, t, b, rfl, lo, fun p H2 s2 n2 hp => ?_⟩
  refine ⟨_, rfl, rfl, _, rfl, iteF ⟨_, rfl, W, _, _, rfl, SqL.of (s2 _ _ upd_same), (by show (1 : Int) ≤ 1; decide), _, rfl, ?_⟩⟩
  exact q p H2 (s0.trans s2) (s0.free n2) hp
end
end K1

/-! is_within, is_name. -/
namespace K1
open PySem PySem.Spec PyProof.Rows L2 LamX SX

def oV : Option Int → V
  | none => .non
  | some i => .int i
def okLo (o : Option Int) (n : Int) : Bool := match o with | none => true | some l => decide (l ≤ n)
def okHi (o : Option Int) (n : Int) : Bool := match o with | none => true | some l => decide (n ≤ l)
def spWithin (K : PySem.W.Frag) : Sp := fun vs H Q _ => ∃ (v : V) (lo hi : Option Int), vs = [v, oV lo, oV hi] ∧
  ((NotInt K H v ∧ Q (.bl false) H) ∨ ∃ n, v = .int n ∧ Q (.bl (okLo lo n && okHi hi n)) H)
def isL (c : Nat) : Bool := decide (97 ≤ c ∧ c ≤ 122)
def isD (c : Nat) : Bool := decide (48 ≤ c ∧ c ≤ 57)
def nameOk (l : List Nat) : Bool := decide (1 ≤ l.length) && decide (l.length ≤ 12) && (l.head?.any isL) && l.all fun c => isL c || isD c
def spName (K : PySem.W.Frag) : Sp := fun vs H Q _ => ∃ v, vs = [v] ∧
  ((∃ t, TyOf K H v t ∧ PySem.W.kitOne K t (.type "str") = some false ∧ Q (.bl false) H) ∨ (∃ l : List Nat, v = .str (S l) ∧ l.length ≤ 1000 ∧ ∀ H', Same H H' → Q (.bl (nameOk l)) H'))
theorem in_let (c : Nat) : decide (c ∈ (Str.ofString "abcdefghijklmnopqrstuvwxyz").cps.toList) = isL c := by
  unfold isL
  exact decide_eq_decide.mpr let_mem
theorem in_dig (c : Nat) : decide (c ∈ (Str.ofString "0123456789").cps.toList) = isD c := by
  unfold isD
  exact decide_eq_decide.mpr dig_mem
section
variable {P : Program} {w : World} {K : PySem.W.Frag} {mg : Str → Option Value} {base : Heap} {f C CB : Addr} {fd : FuncData}
theorem scWithin : FnScope ["value", "least", "most"] ["value", "least", "most"] (defScope sIsWithin) := ⟨rfl, rfl, rfl, by decide +kernel, rfl, by decide +kernel, by decide +kernel⟩
theorem ok_within (HI : HasInt P w K mg base) (F : DefAt K "is_within" "is_within" sIsWithin f fd) : FnOk P w K mg base CX0 2 f fd ["value", "least", "most"] (spWithin K) := by
  obtain ⟨fi, fdi, mI, kI, bI, GI⟩ := HI.h
  refine okN F scWithin (fun vs H Q E ⟨v, lo, hi, e, _⟩ => by rw [e]; rfl) (fun cdv A outer s H vs Q E hr ⟨v, lo, hi, e, h⟩ => ?_)
  subst e
  refine ⟨_, pss_cons (ps_if (pt_not (pt_val (pe_call GI hr rfl mI kI bI .nil pass0 (pa_cons (pv 0) pa_nil)))) (pss_one (ps_ret pe_bl)) pss_nil)
    (pss_one (ps_ret (pe_and (pe_or (pe_cmpR op_isN (pv 1) pe_non (nomark _)) (pe_one (pe_cmpR op_le (pv 1) (pv 0) (nomark _))))
      (pe_one (pe_or (pe_cmpR op_isN (pv 2) pe_non (nomark _)) (pe_one (pe_cmpR op_le (pv 0) (pv 2) (nomark _)))))))), ?_⟩
  rcases h with ⟨⟨t, c, ty, k1, k2⟩, q⟩ | ⟨n, rfl, q⟩
  · refine ⟨_, rfl, v, t, c, true, rfl, ty, k1, k2, ?_⟩
    rw [Bool.not_true, Bool.and_false]
    exact ⟨false, rfl, iteT q⟩
  · refine ⟨_, rfl, _, _, _, _, rfl, .int n, int1, int2, true, rfl, iteF ?_⟩
    cases lo with
    | none =>
      refine ⟨_, rfl, rfl, true, rfl, iteT ⟨true, rfl, iteT ?_⟩⟩
      cases hi with
      | none => exact ⟨_, rfl, rfl, true, rfl, iteT q⟩
      | some u => exact ⟨_, rfl, rfl, false, rfl, iteF ⟨_, rfl, _, rfl, _, _, rfl, rfl, q⟩⟩
    | some l =>
      refine ⟨_, rfl, rfl, false, rfl, iteF ⟨_, rfl, _, rfl, _, _, rfl, rfl, _, rfl, ?_⟩⟩
      by_cases hl : l ≤ n
      · have e : okLo (some l) n = true := decide_eq_true hl
        rw [e, Bool.true_and] at q
        rw [decide_eq_true hl]
        refine iteT ?_
        cases hi with
        | none => exact ⟨_, rfl, rfl, true, rfl, iteT q⟩
        | some u => exact ⟨_, rfl, rfl, false, rfl, iteF ⟨_, rfl, _, rfl, _, _, rfl, rfl, q⟩⟩
      · have e : okLo (some l) n = false := decide_eq_false hl
        rw [e, Bool.false_and] at q
        rw [decide_eq_false hl]
        exact iteF q
theorem scName : FnScope ["value", "sign"] ["value"] (defScope sIsName) := ⟨rfl, rfl, rfl, by decide +kernel, rfl, by decide +kernel, by decide +kernel⟩
theorem ok_name (G : Glob mg) (CO : Consts mg) (F : DefAt K "is_name" "is_name" sIsName f fd) : FnOk P w K mg base CX0 1 f fd ["value"] (spName K) := by
  obtain ⟨ud, gd, rd⟩ := CO.dig
  obtain ⟨ul, gl, rl⟩ := CO.let_
  obtain ⟨u6, g6, r6⟩ := CO.s12
  refine okN F scName (fun vs H Q E ⟨v, e, _⟩ => by rw [e]; rfl) (fun cdv A outer s H vs Q E hr ⟨v, e, h⟩ => ?_)
  subst e
  refine ⟨_, pss_cons (ps_if (PW.pt (pw_or (pt_not (pt_val (pe_callB call_isi (by rfl) G.isi (by decide +kernel) (pa_cons (pv 0) (pa_cons (pe_bltn (by rfl) G.str (by decide +kernel) (v := .ty "str") rfl) pa_nil)))))
      (pw_or1 (pt_not (pt_chain op_le op_le pe_int (pe_callB call_len_str (by rfl) G.len PySem.boot_len (pa_cons (pv 0) pa_nil)) (pe_glob (v := .int 12) rfl g6 r6)))))) (pss_one (ps_ret pe_bl)) pss_nil)
    (pss_one (ps_ret (pe_and (pe_cmpR op_in_sign (pe_ix ix_str (pv 0) pe_int (fun _ _ => rfl)) (pe_glob (v := .str (Str.ofString "abcdefghijklmnopqrstuvwxyz")) rfl gl rl) rfl)
      (pe_one (pe_callB (cr_all rfl) (by rfl) G.all (by decide +kernel) (pa_cons
          (pe_lc (own := [("sign", 1)]) (g := gName 1) (tt := tYes) rfl scName.nd (pi_str (pv 0)) (blkOk_by (N := ["value", "sign"]) (sc := defScope sIsName) (by decide +kernel))
            (fun _ _ _ _ _ => pg_name (i := 1) scName.nd rfl (Or.inl rfl)) (fun _ _ _ _ _ => pts_nil) (fun _ _ _ _ _ => pe_or (pe_cmpR op_in_sign (pv 1) (pe_glob (v := .str (Str.ofString "abcdefghijklmnopqrstuvwxyz")) rfl gl rl) rfl) (pe_one (pe_cmpR op_in_sign (pv 1) (pe_glob (v := .str (Str.ofString "0123456789")) rfl gd rd) rfl)))) pa_nil)))))), ?_⟩
  rcases h with ⟨t, ty, k, q⟩ | ⟨l, rfl, hl, q⟩
  · exact ⟨_, rfl, _, _, _, _, _, rfl, .ty "str", .base ty, k, false, rfl, iteT q⟩
  · refine ⟨_, rfl, _, _, _, _, _, rfl, .ty "str", .base (.str (S l)), kit_ty (a := "str") (b := "str") (r := true) (by decide +kernel), true, rfl, iteF ?_⟩
    have z1 : (S l).length = l.length := S_len _
    have line : (1000 : Nat) ≤ sizeLine := by decide +kernel
    refine ⟨_, rfl, _, rfl, (by omega), _, _, rfl, rfl, _, rfl, ?_⟩
    rw [z1]
    by_cases h1 : 1 ≤ l.length
    · rw [decide_eq_true (show (1 : Int) ≤ (l.length : Int) by omega)]
      refine iteT ⟨_, _, rfl, rfl, _, rfl, ?_⟩
      by_cases h2' : l.length ≤ 12
      · rw [decide_eq_true (show (l.length : Int) ≤ 12 by omega)]
        refine iteF ?_
        obtain ⟨c, r, rfl⟩ : ∃ c r, l = c :: r := List.exists_cons_of_ne_nil (by rintro rfl; simp at h1)
        refine ⟨_, rfl, _, 0, c, rfl, rfl, (by omega), atI_nat (j := 0) rfl, c, _, rfl, rfl, _, rfl, ?_⟩
        rw [in_let]
        cases hc : isL c with
        | false =>
          have e : nameOk (c :: r) = false := by unfold nameOk; rw [List.head?_cons, Option.any_some, hc]; simp
          rw [e] at q
          exact iteF (q H (Same.refl H))
        | true =>
          refine iteT ⟨_, rfl, _, rfl, fun D hD => ?_⟩
          refine lc_it walk_str (fun i H2 => Same H H2 ∧ H2 D = some (.lst ((((c :: r).take i).map fun x => isL x || isD x).map V.bl))) ⟨upd_new hD, by simpa using upd_same⟩ (fun _ _ _ _ => trivial) ?_ ?_
          · rintro i x H2 H3 hi ⟨s2, h2⟩ ⟨rfl, d, hd, rfl⟩
            refine ⟨rfl, yes_of ?_⟩
            have ed : (c :: r)[i]? = some d := by
              have : (S (c :: r)).cps.toList[i]? = some d := by simpa using hd
              exact this
            have hi2 : i < (c :: r).length := (List.getElem?_eq_some_iff.mp ed).1
            have fin : ∃ acc, H3 D = some (.lst acc) ∧ acc.length < sizeLine ∧ (Same H (upd H3 D (.lst (acc ++ [.bl (isL d || isD d)]))) ∧ upd H3 D (.lst (acc ++ [.bl (isL d || isD d)])) D = some (.lst ((((c :: r).take (i + 1)).map fun x => isL x || isD x).map V.bl))) := by
              refine ⟨_, h2, ?_, fun a o e => ?_, ?_⟩
              · rw [List.length_map, List.length_map, List.length_take, sizeLine_eq]
                omega
              · rw [upd_ne (ne_of_none e hD)]
                exact s2 a o e
              · rw [upd_same]
                obtain ⟨hj, ej⟩ := List.getElem?_eq_some_iff.mp ed
                rw [List.take_succ_eq_append_getElem hj, List.map_append, List.map_append, ej]
                rfl
            refine ⟨_, rfl, d, _, rfl, rfl, _, rfl, ?_⟩
            rw [in_let]
            cases hl : isL d with
            | true =>
              rw [hl] at fin
              exact iteT fin
            | false =>
              refine iteF ⟨_, rfl, d, _, rfl, rfl, ?_⟩
              rw [in_dig]
              rw [hl] at fin
              exact fin
          · rintro H2 ⟨s2, h2⟩
            rw [show (S (c :: r)).cps.size = (c :: r).length from z1, List.take_length] at h2
            refine ⟨D, _, rfl, SqL.of h2, ?_⟩
            have e : nameOk (c :: r) = (((c :: r).map fun x => isL x || isD x).all id) := by
              unfold nameOk
              rw [decide_eq_true h1, decide_eq_true h2', List.head?_cons, Option.any_some, hc, List.all_map]
              rfl
            rw [← e]
            exact q H2 s2
      · have e : nameOk l = false := by unfold nameOk; rw [decide_eq_false h2']; simp
        rw [decide_eq_false (show ¬ (l.length : Int) ≤ 12 by omega)]
        rw [e] at q
        exact iteT (q H (Same.refl H))
    · have e : nameOk l = false := by unfold nameOk; rw [decide_eq_false h1]; simp
      rw [decide_eq_false (show ¬ (1 : Int) ≤ (l.length : Int) by omega)]
      rw [e] at q
      exact iteF ⟨false, rfl, iteT (q H (Same.refl H))⟩
end
end K1

/-! the law's tub and scoop -/
namespace K1
open PySem PySem.Spec PyProof.Rows L2

/-- ** of ints of any size, the power's bits bounded -/
def CPowW (i j : Int) : Prop := 0 ≤ j ∧ j ≤ 1000 ∧ i.natAbs.log2 < 10000
theorem op_powW {X : Cx} : OpR X (binaryOp .Pow) (rI CPowW fun i j => .int (i ^ j.toNat)) := opI fun i j _ _ _ _ _ hc q => by
  obtain ⟨h0, h1, h2⟩ := hc
  have b : Builtin.Int.intBits i ≤ i.natAbs.log2 + 1 := by
    unfold Builtin.Int.intBits
    split <;> omega
  have b2 : (Builtin.Int.intBits i : Int) ≤ 10000 := by omega
  have b3 : (Builtin.Int.intBits i : Int) * j ≤ 10000 * 1000 := by
    calc (Builtin.Int.intBits i : Int) * j ≤ 10000 * j := Int.mul_le_mul_of_nonneg_right b2 h0
      _ ≤ 10000 * 1000 := Int.mul_le_mul_of_nonneg_left h1 (by decide)
  have b4 : (10000 * 1000 : Int) ≤ 2 ^ 27 := by decide
  exact pow_int h0 (Int.le_trans b3 b4) q

/-- the pail: what is left, how often it was filled anew (n at most), what it was at first -/
def Pail (x y z : Int) (n : Nat) : Prop := 0 ≤ x ∧ x < 2 ^ 1400 ∧ 0 ≤ y ∧ y ≤ n ∧ n ≤ 1000 ∧ 0 ≤ z ∧ z < 2 ^ 1000
def spDip : Sp := fun vs H Q _ => ∃ (p : Addr) (x y z m : Int) (n : Nat), vs = [.ref p, .int m] ∧ H p = some (.lst [.int x, .int y, .int z]) ∧ Pail x y z n ∧ n < 1000 ∧ 0 < m ∧ m < 2 ^ 300 ∧
  ∀ (x' y' r : Int), 0 ≤ r → r < m → Pail x' y' z (n + 1) → Q (.int r) (upd H p (.lst [.int x', .int y', .int z]))

theorem fill_lt {y z : Int} (h0 : 0 ≤ y) (h1 : y ≤ 1001) (h2 : 0 ≤ z) : 0 ≤ (983 * y + 3527 + z % 10 ^ 30) ∧ (983 * y + 3527 + z % 10 ^ 30) < 2 ^ 100 := by
  have a : z % 10 ^ 30 < 10 ^ 30 := Int.emod_lt_of_pos _ (by decide)
  have b : 0 ≤ z % 10 ^ 30 := Int.emod_nonneg _ (by decide)
  have c : (10 ^ 30 : Int) + 1000000 < 2 ^ 100 := by decide
  constructor <;> omega
theorem powLe {a b : Int} (h0 : 0 ≤ a) (h : a ≤ b) : ∀ n : Nat, a ^ n ≤ b ^ n
  | 0 => by simp
  | n + 1 => by
    rw [Int.pow_succ, Int.pow_succ]
    exact Int.mul_le_mul (powLe h0 h n) h h0 (Int.pow_nonneg (Int.le_trans h0 h))
theorem fill13 {b : Int} (h0 : 0 ≤ b) (h1 : b < 2 ^ 100) : 0 ≤ b ^ 13 / 7 ∧ b ^ 13 / 7 < 2 ^ 1400 := by
  have a : 0 ≤ b ^ 13 := Int.pow_nonneg h0
  have c : b ^ 13 ≤ (2 ^ 100) ^ 13 := powLe h0 (Int.le_of_lt h1) 13
  have d : ((2 : Int) ^ 100) ^ 13 < 2 ^ 1400 := by decide +kernel
  constructor
  · exact Int.ediv_nonneg a (by decide)
  · have e : b ^ 13 / 7 ≤ b ^ 13 := Int.ediv_le_self _ a
    omega

section
variable {P : Program} {w : World} {K : PySem.W.Frag} {mg : Str → Option Value} {base : Heap} {f : Addr} {fd : FuncData}
theorem scDip : FnScope ["_law_tub_here", "_law_many", "_law_rest"] ["_law_tub_here", "_law_many"] (defScope sScoop) := ⟨rfl, rfl, rfl, by decide +kernel, rfl, by decide +kernel, by decide +kernel⟩
theorem ok_dip (F : DefAt K "_law_scoop" "_law_scoop" sScoop f fd) : FnOk P w K mg base CX0 1 f fd ["_law_tub_here", "_law_many"] spDip := by
  refine okN F scDip (fun vs H Q E h => ?_) (fun cdv A outer s H vs Q E hr h => ?_)
  · obtain ⟨p, x, y, z, m, n, rfl, _⟩ := h
    rfl
  · obtain ⟨p, x, y, z, m, n, rfl, hp, hP, hn, m0, m1, k⟩ := h
    obtain ⟨x0, x1, y0, y1, n0, z0, z1⟩ := hP
    refine ⟨_, pss_cons (ps_if (pt_cmpR op_eq (pe_ix ix_list (pv 0) pe_int (fun _ _ => rfl)) pe_int (nomark _))
        (pss_cons (ps_asg (pe_op op_add (pe_ix ix_list (pv 0) pe_int (fun _ _ => rfl)) pe_int) (pg_sub (pv 0) pe_int set_list))
        (pss_one (ps_asg (pe_op op_fdiv (pe_op op_powW (pe_op op_add (pe_op op_add (pe_op op_mul pe_int (pe_ix ix_list (pv 0) pe_int (fun _ _ => rfl))) pe_int)
          (pe_op op_mod (pe_ix ix_list (pv 0) pe_int (fun _ _ => rfl)) (pe_op op_pow pe_int pe_int))) pe_int) pe_int) (pg_sub (pv 0) pe_int set_list)))) pss_nil)
      (pss_cons (ps_set (i := 2) scDip.nd rfl (Or.inl rfl) (pe_ix ix_list (pv 0) pe_int (fun _ _ => rfl)))
      (pss_cons (ps_asg (pe_op op_fdivW (pv 2) (pv 1)) (pg_sub (pv 0) pe_int set_list))
      (pss_one (ps_ret (pe_op op_mod (pv 2) (pv 1)))))), ?_⟩
    have at0 : ∀ {a b c : Int}, atI [V.int a, V.int b, V.int c] 0 = some (V.int a) := atI_nat (j := 0) rfl
    have at1 : ∀ {a b c : Int}, atI [V.int a, V.int b, V.int c] 1 = some (V.int b) := atI_nat (j := 1) rfl
    have at2 : ∀ {a b c : Int}, atI [V.int a, V.int b, V.int c] 2 = some (V.int c) := atI_nat (j := 2) rfl
    -- the end, from whatever stands in the pail
    have fin : ∀ (H1 : Hp) (a b : Int), H1 p = some (.lst [.int a, .int b, .int z]) → (∀ o, upd H1 p o = upd H p o) → 0 ≤ a → a < 2 ^ 1400 → 0 ≤ b → b ≤ n + 1 →
        ∃ v, [some (V.ref p), some (V.int m), none][0]? = some (some v) ∧ ∃ p' xs i v', v = .ref p' ∧ V.int 0 = .int i ∧ SqL K H1 p' xs ∧ atI xs i = some v' ∧
          tSeq (tAsg (tOp (rI CDivW fun i j => .int (i / j)) (tVar 2) (tVar 1)) (gSub (tVar 0) (tC (.int 0)) rSetL)) (tRet (tOp (rI (fun _ j => 0 < j) fun i j => .int (i % j)) (tVar 2) (tVar 1)))
            { nx := fun _ H' => Q .non H', rt := Q } ([some (V.ref p), some (V.int m), none].set 2 (some v')) H1 := by
      intro H1 a b h1 hu a0 a1 b0 b1
      refine ⟨_, rfl, p, _, _, _, rfl, rfl, SqL.of h1, at0, ?_⟩
      have dv : CDivW a m := wide_div (b := 300) m0 (by omega) (by decide) (by decide)
      refine ⟨_, rfl, _, rfl, _, _, rfl, rfl, dv, ?_⟩
      refine ⟨_, rfl, p, _, _, 0, rfl, rfl, h1, rfl, ?_⟩
      refine ⟨_, rfl, _, rfl, _, _, rfl, rfl, m0, ?_⟩
      have e : upd H1 p (.lst ([V.int a, .int b, .int z].set 0 (.int (a / m)))) = upd H p (.lst [.int (a / m), .int b, .int z]) := hu _
      rw [e]
      have q0 : 0 ≤ a / m := Int.ediv_nonneg a0 (Int.le_of_lt m0)
      have q1 : a / m ≤ a := Int.ediv_le_self _ a0
      exact k (a / m) b (a % m) (Int.emod_nonneg _ (by omega)) (Int.emod_lt_of_pos _ m0) ⟨q0, by omega, b0, by omega, by omega, z0, z1⟩
    refine ⟨_, rfl, p, _, _, _, rfl, rfl, SqL.of hp, at0, rfl, _, rfl, ?_⟩
    by_cases hx : V.int x = V.int 0
    · rw [decide_eq_true hx]
      refine iteT ?_
      refine ⟨_, rfl, p, _, _, _, rfl, rfl, SqL.of hp, at1, _, _, rfl, rfl, _, rfl, p, _, _, 1, rfl, rfl, hp, rfl, ?_⟩
      have g1 : upd H p (.lst ([V.int x, .int y, .int z].set 1 (.int (y + 1)))) p = some (.lst [.int x, .int (y + 1), .int z]) := upd_same
      obtain ⟨f0, f1⟩ := fill_lt (y := y + 1) (z := z) (by omega) (by omega) z0
      refine ⟨_, rfl, p, _, _, _, rfl, rfl, SqL.of g1, at1, _, _, rfl, rfl, .inl ⟨by decide, by decide⟩, _, _, rfl, rfl, ?_⟩
      refine ⟨_, rfl, p, _, _, _, rfl, rfl, SqL.of g1, at2, _, _, rfl, rfl, ⟨by decide, by decide, by decide⟩, _, _, rfl, rfl, (by show (0 : Int) < 10 ^ (Int.toNat 30); decide), _, _, rfl, rfl, ?_⟩
      have pw : CPowW (983 * (y + 1) + 3527 + z % 10 ^ 30) 13 := ⟨by decide, by decide, Nat.lt_of_lt_of_le (PySem.Flt.log2_lt_of (show 0 < 100 by decide) (show _ < 2 ^ 100 by omega)) (by decide)⟩
      refine ⟨_, _, rfl, rfl, pw, _, _, rfl, rfl, ⟨by decide, by decide⟩, ?_⟩
      refine ⟨_, rfl, p, _, _, 0, rfl, rfl, g1, rfl, ?_⟩
      obtain ⟨e0, e1⟩ := fill13 f0 f1
      exact fin _ ((983 * (y + 1) + 3527 + z % 10 ^ 30) ^ 13 / 7) (y + 1) upd_same (fun o => by rw [upd_upd, upd_upd]) e0 e1 (by omega) (by omega)
    · rw [decide_eq_false hx]
      refine iteF ?_
      exact fin H x y hp (fun o => rfl) x0 x1 y0 (by omega)
end

def spPail (K : PySem.W.Frag) : Sp := fun vs H Q _ => ∃ (a : Addr) (ns : List Int), vs = [.ref a] ∧ SqL K H a (ns.map V.int) ∧ ns.length ≤ 63 ∧
  ∀ (p : Addr) (H' : Hp) (z : Int), Same H H' → H p = none → H' p = some (.lst [.int z, .int 0, .int z]) → Pail z 0 z 0 → Q (.ref p) H'
theorem cut_mem {xs : List V} {lo hi : Option Int} {i : Nat} {x : V} (h : (cutV xs lo hi)[i]? = some x) : x ∈ xs :=
  List.mem_of_mem_drop (List.mem_of_mem_take (List.mem_of_getElem? h))
theorem cut_len {xs : List V} {lo hi : Option Int} : (cutV xs lo hi).length ≤ xs.length := by
  unfold cutV
  rw [List.length_take, List.length_drop]
  omega
/-- how great the sum is behind i cells -/
def lim (i : Nat) : Int := 1214 ^ i * 10 ^ 42
theorem lim_step {i : Nat} {z a b : Int} (h0 : 0 ≤ z) (h : z ≤ lim i) (a0 : 0 ≤ a) (a1 : a < 10 ^ 40) (b0 : 0 ≤ b) (b1 : b ≤ 1) : 0 ≤ z * 1213 + a + 10 ^ 41 * b ∧ z * 1213 + a + 10 ^ 41 * b ≤ lim (i + 1) := by
  have p : (1 : Int) ≤ 1214 ^ i := by
    have := powLe (a := 1) (b := 1214) (by decide) (by decide) i
    rwa [Int.one_pow] at this
  have q : (10 ^ 42 : Int) ≤ lim i := by
    unfold lim
    have := Int.mul_le_mul_of_nonneg_right p (show (0 : Int) ≤ 10 ^ 42 by decide)
    omega
  have r : lim (i + 1) = 1214 * lim i := by
    unfold lim
    rw [Int.pow_succ, Int.mul_comm (1214 ^ i) 1214, Int.mul_assoc]
  have c : (10 ^ 41 : Int) * b ≤ 10 ^ 41 * 1 := Int.mul_le_mul_of_nonneg_left b1 (by decide)
  have d : (0 : Int) ≤ 10 ^ 41 * b := Int.mul_nonneg (by decide) b0
  rw [r]
  constructor <;> omega
theorem lim_all {i : Nat} (h : i ≤ 63) : lim i < 2 ^ 1000 := by
  have a : (1214 : Int) ^ i ≤ 1214 ^ 63 := by
    have e : (1214 : Int) ^ 63 = 1214 ^ i * 1214 ^ (63 - i) := by
      rw [← Int.pow_add]
      congr 1
      omega
    have p : (1 : Int) ≤ 1214 ^ (63 - i) := by
      have := powLe (a := 1) (b := 1214) (by decide) (by decide) (63 - i)
      rwa [Int.one_pow] at this
    rw [e]
    have n : (0 : Int) ≤ 1214 ^ i := Int.pow_nonneg (by decide)
    have := Int.mul_le_mul_of_nonneg_left p n
    omega
  have b : (1214 : Int) ^ 63 * 10 ^ 42 < 2 ^ 1000 := by decide +kernel
  have c := Int.mul_le_mul_of_nonneg_right a (show (0 : Int) ≤ 10 ^ 42 by decide)
  unfold lim
  omega

section
variable {P : Program} {w : World} {K : PySem.W.Frag} {mg : Str → Option Value} {base : Heap} {f : Addr} {fd : FuncData}
theorem scPail : FnScope ["_law_script", "_law_whole", "_law_cell"] ["_law_script"] (defScope sTub) := ⟨rfl, rfl, rfl, by decide +kernel, rfl, by decide +kernel, by decide +kernel⟩
theorem ok_pail (G : Glob mg) (F : DefAt K "_law_tub" "_law_tub" sTub f fd) : FnOk P w K mg base CX0 1 f fd ["_law_script"] (spPail K) := by
  refine okN F scPail (fun vs H Q E h => ?_) (fun cdv A outer s H vs Q E hr h => ?_)
  · obtain ⟨a, ns, rfl, _⟩ := h
    rfl
  · obtain ⟨a, ns, rfl, hS, hl, k⟩ := h
    refine ⟨_, pss_cons (ps_set (i := 1) scPail.nd rfl (Or.inl rfl) pe_int)
      (pss_cons (ps_for PassesOwn.never rfl (pi_list (pe_slice sl_list (pv 0) po_none (po_some pe_int))) (pg_name (i := 2) scPail.nd rfl (Or.inl rfl))
        (pss_one (ps_set (i := 1) scPail.nd rfl (Or.inl rfl)
          (pe_op op_add (pe_op op_add (pe_op op_mul (pv 1) pe_int)
            (pe_op op_mod (pe_callB call_abs (by rfl) G.abs (by decide +kernel) (pa_cons (pe_callTy call_int1 (by rfl) G.int (by decide +kernel) (pa_cons (pv 2) pa_nil)) pa_nil)) (pe_op op_pow pe_int pe_int)))
            (pe_op op_mul (pe_op op_pow pe_int pe_int) (pe_callTy call_int1 (by rfl) G.int (by decide +kernel) (pa_cons (pe_cmpR op_lt (pv 2) pe_int (nomark _)) pa_nil)))))))
      (pss_one (ps_ret (pe_lst (pa_cons (pv 1) (pa_cons pe_int (pa_cons (pv 1) pa_nil))))))), ?_⟩
    refine ⟨_, rfl, ?_⟩
    refine ⟨40, rfl, a, _, rfl, hS, fun p0 np0 => ?_⟩
    have s0 : Same H (upd H p0 (.lst (cutV (ns.map V.int) none (some 40)))) := fun b o e => by rw [upd_ne (ne_of_none e np0)]; exact e
    have lc : (cutV (ns.map V.int) none (some 40)).length ≤ 63 := by
      refine Nat.le_trans cut_len ?_
      rw [List.length_map]
      exact hl
    refine ⟨p0, rfl, ⟨_, SqL.of upd_same⟩, for_list (K := K) (a := p0) (xs := cutV (ns.map V.int) none (some 40))
      (fun i σ H2 => ∃ (z : Int) (v : Option V), σ = [some (.ref a), some (.int z), v] ∧ H2 = upd H p0 (.lst (cutV (ns.map V.int) none (some 40))) ∧ 0 ≤ z ∧ z ≤ lim i)
      ⟨59, none, rfl, rfl, by decide, by decide +kernel⟩ (fun i σ H2 _ ⟨z, v, _, e, _⟩ => by rw [e]; exact SqL.of upd_same) ?_ ?_⟩
    · rintro i y σ H2 hi ⟨z, v, rfl, rfl, z0, z1⟩
      obtain ⟨n, _, rfl⟩ := List.mem_map.mp (cut_mem hi)
      refine ⟨_, rfl, _, _, rfl, rfl, .inr ⟨by decide, by decide⟩, ?_⟩
      refine ⟨_, rfl, .inl ⟨_, rfl, _, rfl, ?_⟩⟩
      refine ⟨_, _, rfl, rfl, ⟨by decide, by decide, by decide⟩, _, _, rfl, rfl, (by show (0 : Int) < 10 ^ (Int.toNat 40); decide), _, _, rfl, rfl, ?_⟩
      refine ⟨_, _, rfl, rfl, ⟨by decide, by decide, by decide⟩, _, rfl, _, _, rfl, rfl, .inr ⟨_, rfl, ?_⟩⟩
      refine ⟨_, _, rfl, rfl, .inr ?_, _, _, rfl, rfl, ?_⟩
      · by_cases hn : n < 0
        · rw [decide_eq_true hn]; exact ⟨by decide, by decide⟩
        · rw [decide_eq_false hn]; exact ⟨by decide, by decide⟩
      · refine ⟨_, _, rfl, rfl, ?_⟩
        have b01 : (0 : Int) ≤ (if decide (n < 0) = true then 1 else 0) ∧ (if decide (n < 0) = true then (1 : Int) else 0) ≤ 1 := by
          by_cases hn : n < 0
          · rw [decide_eq_true hn]; exact ⟨by decide, by decide⟩
          · rw [decide_eq_false hn]; exact ⟨by decide, by decide⟩
        exact lim_step z0 z1 (Int.emod_nonneg _ (by decide)) (Int.emod_lt_of_pos _ (by decide)) b01.1 b01.2
    · rintro σ H2 ⟨z, v, rfl, rfl, z0, z1⟩
      refine ⟨_, rfl, _, rfl, (by show 3 ≤ sizeLine; decide), fun p hp => ?_⟩
      have hl2 := lim_all lc
      refine k p _ z (fun b o e => by rw [upd_ne (ne_of_none (s0 _ _ e) hp)]; exact s0 _ _ e) (s0.free hp) upd_same ⟨z0, by omega, by decide, by decide, by decide, z0, by omega⟩
end
end K1

/-! _law_text. -/
namespace K1
open PySem PySem.Spec PyProof.Rows L2 LamX SX

/-- the tub stands at p; n draws at most were made -/
def TubAt (H : Hp) (p : Addr) (n : Nat) : Prop := ∃ x y z : Int, H p = some (.lst [.int x, .int y, .int z]) ∧ Pail x y z n
/-- all but p stands as it stood -/
def Keep (p : Addr) (H H' : Hp) : Prop := ∀ c o, c ≠ p → H c = some o → H' c = some o
theorem Keep.refl (p : Addr) (H : Hp) : Keep p H H := fun _ _ _ e => e
theorem Keep.trans {p : Addr} {H H1 H2 : Hp} (a : Keep p H H1) (b : Keep p H1 H2) : Keep p H H2 := fun c o n e => b c o n (a c o n e)
theorem Same.keep {p : Addr} {H H' : Hp} (s : Same H H') : Keep p H H' := fun c o _ e => s c o e
theorem TubAt.same {H H' : Hp} {p : Addr} {n : Nat} (s : Same H H') (h : TubAt H p n) : TubAt H' p n := let ⟨x, y, z, e, q⟩ := h; ⟨x, y, z, s _ _ e, q⟩
theorem TubAt.mono {H : Hp} {p : Addr} {n m : Nat} (h : TubAt H p n) (l : n ≤ m) (hm : m ≤ 1000) : TubAt H p m := let ⟨x, y, z, e, a, b, c, d, f, g⟩ := h; ⟨x, y, z, e, a, b, c, by omega, hm, g⟩
theorem TubAt.ne {H : Hp} {p a : Addr} {n : Nat} (h : TubAt H p n) (e : H a = none) : a ≠ p := by
  obtain ⟨x, y, z, e1, _⟩ := h
  intro z; rw [z, e1] at e; cases e
theorem TubAt.free {H H' : Hp} {p a : Addr} {n : Nat} (k : Keep p H H') (h : TubAt H' p n) (e : H' a = none) : H a = none := by
  cases q : H a with
  | none => rfl
  | some o => rw [k a o (h.ne e) q] at e; cases e
theorem TubAt.upd {H : Hp} {p a : Addr} {n : Nat} {o : HO} (h : TubAt H p n) (e : a ≠ p) : TubAt (upd H a o) p n := let ⟨x, y, z, e1, q⟩ := h; ⟨x, y, z, by rw [upd_ne (Ne.symm e)]; exact e1, q⟩
theorem dip_of {H : Hp} {p : Addr} {n : Nat} {m : Int} {Q : VK} {E : XK} (h : TubAt H p n) (hn : n < 1000) (m0 : 0 < m) (m1 : m < 2 ^ 300) (k : ∀ r H', 0 ≤ r → r < m → TubAt H' p (n + 1) → Keep p H H' → Q (.int r) H') : spDip [.ref p, .int m] H Q E := by
  obtain ⟨x, y, z, e, q⟩ := h
  exact ⟨p, x, y, z, m, n, rfl, e, q, hn, m0, m1, fun x' y' r a b c => k r _ a b ⟨x', y', z, upd_same, c⟩ fun d o ne e => by rw [upd_ne ne]; exact e⟩
theorem dip_c {σ : L2.St} {i : Nat} {H : Hp} {p : Addr} {n : Nat} {m : Int} {Q : VK} {E : XK} (hv : σ[i]? = some (some (.ref p))) (h : TubAt H p n) (hn : n < 1000) (m0 : 0 < m) (m1 : m < 2 ^ 300) (k : ∀ r H', 0 ≤ r → r < m → TubAt H' p (n + 1) → Keep p H H' → Q (.int r) H') :
    tCall spDip [] E (tCons (tVar i) (tCons (tC (.int m)) tNil)) σ H Q := ⟨_, hv, dip_of (E := E) h hn m0 m1 k⟩
theorem dip_v {σ : L2.St} {i j : Nat} {H : Hp} {p : Addr} {n : Nat} {m : Int} {Q : VK} {E : XK} (hv : σ[i]? = some (some (.ref p))) (hj : σ[j]? = some (some (.int m))) (h : TubAt H p n) (hn : n < 1000) (m0 : 0 < m) (m1 : m < 2 ^ 300) (k : ∀ r H', 0 ≤ r → r < m → TubAt H' p (n + 1) → Keep p H H' → Q (.int r) H') :
    tCall spDip [] E (tCons (tVar i) (tCons (tVar j) tNil)) σ H Q := ⟨_, hv, _, hj, dip_of (E := E) h hn m0 m1 k⟩
structure HasScoop (P : Program) (w : World) (K : PySem.W.Frag) (mg : Str → Option Value) (base : Heap) : Prop where
  h : ∃ f fd, mg "_law_scoop" = some (.ref f) ∧ PySem.W.keepIn K (.ref f) = true ∧ Binds K fd ["_law_tub_here", "_law_many"] [] ∧ FnOk P w K mg base CX0 1 f fd ["_law_tub_here", "_law_many"] spDip
theorem join_ones : ∀ cs : List Nat, TL.joinL [] (cs.map fun c => [c]) = cs
  | [] => rfl
  | [c] => rfl
  | c :: d :: r => by
    show [c] ++ ([] ++ TL.joinL [] ((d :: r).map fun c => [c])) = _
    rw [join_ones (d :: r)]
    rfl
theorem sum_ones : ∀ cs : List Nat, ((cs.map fun c => S [c]).map (·.length)).sum = cs.length
  | [] => rfl
  | c :: r => by
    rw [List.map_cons, List.map_cons, List.sum_cons, sum_ones r, S_len]
    simp
    omega
def spText : Sp := fun vs H Q _ => ∃ (p : Addr) (n : Nat), vs = [.ref p] ∧ TubAt H p n ∧ n + 20 ≤ 1000 ∧ ∀ (l : List Nat) H', l.length ≤ 17 → (∀ c ∈ l, c < 128) → TubAt H' p (n + 20) → Keep p H H' → Q (.str (S l)) H'
abbrev sg1 : Str := Str.ofString "abcdefghijklmnopqrstuvwxyz0123456789"
abbrev sg2 : Str := Str.ofString "aA._- ~\n"
theorem sgs_len : (sg1 ++ sg2).cps.toList.length = 44 := by decide +kernel
theorem sgs_at {r : Int} (h0 : 0 ≤ r) (h1 : r < 44) : ∃ c, atI (sg1 ++ sg2).cps.toList r = some c ∧ c < 128 := by
  obtain ⟨c, hc⟩ : ∃ c, (sg1 ++ sg2).cps.toList[r.toNat]? = some c := ⟨_, List.getElem?_eq_getElem (by rw [sgs_len]; omega)⟩
  have al : (sg1 ++ sg2).cps.toList.all (fun c => decide (c < 128)) = true := by decide +kernel
  refine ⟨c, ?_, of_decide_eq_true (List.all_eq_true.mp al c (List.mem_of_getElem? hc))⟩
  have e : r = (r.toNat : Int) := by omega
  rw [e]
  exact atI_nat hc
section
variable {P : Program} {w : World} {K : PySem.W.Frag} {mg : Str → Option Value} {base : Heap} {f C CB : Addr} {fd : FuncData}
abbrev nText : List Str := ["_law_tub_here", "_law_signs", "_law_many", "_law_text_here", "_law_at", "_law_turn"]
theorem scText : FnScope nText ["_law_tub_here"] (defScope sText) := ⟨rfl, rfl, rfl, by decide +kernel, rfl, by decide +kernel, by decide +kernel⟩
theorem ok_text (G : Glob mg) (HS : HasScoop P w K mg base) (F : DefAt K "_law_text" "_law_text" sText f fd) : FnOk P w K mg base CX0 2 f fd ["_law_tub_here"] spText := by
  obtain ⟨fs, fds, mS, kS, bS, GS⟩ := HS.h
  refine okN F scText (fun vs H Q E ⟨p, n, e, _⟩ => by rw [e]; rfl) (fun cdv A outer s H vs Q E hr ⟨p, n, e, hT, hn, q⟩ => ?_)
  subst e
  refine ⟨_, pss_cons (ps_set (i := 1) scText.nd rfl (Or.inr rfl) (pe_op op_add_str pe_str pe_str))
    (pss_cons (ps_set (i := 2) scText.nd rfl (Or.inl rfl) (pe_ix ix_tup (pe_tup (pa_cons pe_int (pa_cons pe_int (pa_cons pe_int (pa_cons pe_int (pa_cons pe_int (pa_cons pe_int (pa_cons pe_int (pa_cons pe_int pa_nil)))))))))
        (pe_call GS hr rfl mS kS bS .nil pass0 (pa_cons (pv 0) (pa_cons pe_int pa_nil))) (fun _ _ => rfl)))
    (pss_cons (ps_set (i := 3) scText.nd rfl (Or.inl rfl) (pe_join pe_str
      (pe_lc (own := [("_law_turn", 5)]) (g := gName 5) (tt := tYes) rfl scText.nd (pi_range1 (by rfl) G.range (pa_cons (pv 2) pa_nil)) (blkOk_by (N := nText) (sc := defScope sText) (by decide +kernel))
        (fun _ _ _ _ _ => pg_name (i := 5) scText.nd rfl (Or.inl rfl)) (fun _ _ _ _ _ => pts_nil) (fun _ _ _ _ _ => pe_ix ix_str (pv 1) (pe_call GS hr rfl mS kS bS .nil pass0 (pa_cons (pv 0) (pa_cons pe_int pa_nil))) (fun _ _ => rfl)))))
    (pss_cons (ps_if (PW.pt (pw_and (pt_cmpR op_eq (pe_call GS hr rfl mS kS bS .nil pass0 (pa_cons (pv 0) (pa_cons pe_int pa_nil))) pe_int (nomark _)) (pw_and1 (pt_cmpR op_gt (pv 2) pe_int (nomark _)))))
      (pss_cons (ps_set (i := 4) scText.nd rfl (Or.inl rfl) (pe_call GS hr rfl mS kS bS .nil pass0 (pa_cons (pv 0) (pa_cons (pv 2) pa_nil))))
      (pss_one (ps_set (i := 3) scText.nd rfl (Or.inl rfl) (pe_op op_add_str (pe_op op_add_str (pe_slice C8.sl_txt (pv 3) po_none (po_some (pv 4)))
        (pe_ix ix_str (pv 1) (pe_op op_add pe_int (pe_call GS hr rfl mS kS bS .nil pass0 (pa_cons (pv 0) (pa_cons pe_int pa_nil)))) (fun _ _ => rfl)))
        (pe_slice C8.sl_txt (pv 3) (po_some (pe_op op_add (pv 4) pe_int)) po_none))))) pss_nil)
    (pss_one (ps_ret (pv 3)))))), ?_⟩
  have line : (1000 : Nat) ≤ sizeLine := by decide +kernel
  refine ⟨_, _, rfl, rfl, (by decide +kernel), ?_⟩
  refine ⟨(by show 8 ≤ sizeLine; decide), fun T nT => ?_⟩
  have hT1 := hT.upd (o := .tup [V.int 0, .int 1, .int 2, .int 5, .int 11, .int 12, .int 13, .int 16]) (hT.ne nT)
  refine dip_c (i := 0) rfl hT1 (by omega) (by decide) (by decide +kernel) fun r H1 r0 r1 hT2 k1 => ?_
  have k01 : Keep p H H1 := (Same.keep (upd_new nT)).trans k1
  obtain ⟨m, em, m0, m1⟩ : ∃ m : Int, atI [V.int 0, .int 1, .int 2, .int 5, .int 11, .int 12, .int 13, .int 16] r = some (.int m) ∧ 0 ≤ m ∧ m ≤ 16 := by
    have z : r = 0 ∨ r = 1 ∨ r = 2 ∨ r = 3 ∨ r = 4 ∨ r = 5 ∨ r = 6 ∨ r = 7 := by omega
    rcases z with rfl | rfl | rfl | rfl | rfl | rfl | rfl | rfl
    all_goals exact ⟨_, rfl, by decide, by decide⟩
  refine ⟨T, _, _, _, rfl, rfl, SqT.of (k1 _ _ (hT.ne nT) upd_same), em, ?_⟩
  refine ⟨⟨_, rfl⟩, _, rfl, m, rfl, (by omega), (by omega), fun D hD => ?_⟩
  refine lc_range (lo := 0) (n := m.toNat) (fun i H2 => ∃ cs : List Nat, (cs.length = i ∧ ∀ c ∈ cs, c < 128) ∧ TubAt H2 p (n + 1 + i) ∧ Keep p H1 H2 ∧ H2 D = some (.lst ((cs.map fun c => S [c]).map V.str)))
    ⟨[], ⟨rfl, fun _ z => nomatch z⟩, hT2.upd (hT2.ne hD), Same.keep (upd_new hD), upd_same⟩ ?_ ?_
  · rintro i H2 hi ⟨cs, ⟨lc, ac⟩, t2, k2, h2⟩
    refine ⟨rfl, yes_of ?_⟩
    refine ⟨_, rfl, ?_⟩
    refine dip_c (i := 0) rfl t2 (by omega) (by decide) (by decide +kernel) fun r H3 r0 r1 t3 k3 => ?_
    obtain ⟨c, ec, cc⟩ := sgs_at r0 (by omega)
    refine ⟨_, _, c, rfl, rfl, (by decide +kernel), ec, ?_⟩
    have h3 := k3 _ _ (hT2.ne hD) h2
    refine ⟨_, h3, ?_, cs ++ [c], ?_, ?_, ?_, ?_⟩
    · rw [List.length_map, List.length_map, sizeLine_eq]
      omega
    · exact ⟨by rw [List.length_append, lc]; rfl, fun d z => (List.mem_append.mp z).elim (ac d) fun z => by simp at z; omega⟩
    · exact (t3.mono (by omega) (by omega)).upd (hT2.ne hD)
    · exact fun a o ne e => by rw [upd_ne (ne_of_none e hD)]; exact (k2.trans k3) a o ne e
    · rw [upd_same, List.map_append, List.map_append]
      rfl
  · rintro H2 ⟨cs, ⟨lc, ac⟩, t2, k2, h2⟩
    refine ⟨_, D, cs.map (fun c => S [c]), rfl, rfl, .inl (SqL.of h2), ?_, ?_⟩
    · rw [sum_ones]
      have : (Str.ofString "").length = 0 := by decide +kernel
      rw [this]
      omega
    have ej : Txt.join (Str.ofString "") (cs.map fun c => S [c]) = S cs := by
      have e0 : Str.ofString "" = S [] := TL.ext_tl (by decide +kernel)
      have e1 : (cs.map fun c => S [c]) = (cs.map fun c => [c]).map S := by rw [List.map_map]; rfl
      rw [e0, e1, join_S, join_ones]
    rw [ej]
    have k02 : Keep p H H2 := k01.trans k2
    have t2' : TubAt H2 p (n + 17) := t2.mono (by omega) (by omega)
    refine dip_c (i := 0) rfl t2' (by omega) (by decide) (by decide +kernel) fun r H3 r0 r1 t3 k3 => ?_
    have out : ∀ l H4, l.length ≤ 17 → (∀ c ∈ l, c < 128) → TubAt H4 p (n + 20) → Keep p H3 H4 → Q (.str (S l)) H4 := fun l H4 a d b c => q l H4 a d b ((k02.trans k3).trans c)
    have t3' : TubAt H3 p (n + 18) := t3
    have dn : Q (.str (S cs)) H3 := out cs H3 (by omega) ac (t3'.mono (by omega) (by omega)) (Keep.refl _ _)
    refine ⟨rfl, _, rfl, ite2 (fun _ => ?_) fun _ => ⟨_, rfl, dn⟩⟩
    refine ⟨_, rfl, _, _, rfl, rfl, _, rfl, ite2 (fun hm => ?_) fun _ => ⟨_, rfl, dn⟩⟩
    have mp : 0 < m := of_decide_eq_true hm
    refine dip_v (i := 0) (j := 2) rfl rfl t3' (by omega) mp (Int.lt_of_le_of_lt m1 (by decide +kernel)) fun at_ H4 a0 a1 t4 k4 => ?_
    have zl : (S cs).length = cs.length := S_len _
    refine ⟨_, rfl, _, rfl, _, rfl, _, rfl, (by omega), ?_⟩
    rw [slice_to a0]
    refine ⟨_, rfl, ?_⟩
    refine dip_c (i := 0) rfl t4 (by omega) (by decide) (by decide +kernel) fun u H5 u0 u1 t5 k5 => ?_
    obtain ⟨c, ec, cc⟩ := sgs_at (r := 36 + u) (by omega) (by omega)
    refine ⟨_, _, rfl, rfl, _, _, c, rfl, rfl, (by decide +kernel), ec, ?_⟩
    have l1 : (S (cs.take at_.toNat)).length ≤ 16 := by rw [S_len, List.length_take]; omega
    refine ⟨_, S [c], rfl, rfl, (by rw [S_len [c]]; simp; omega), ?_⟩
    refine ⟨_, rfl, _, rfl, _, _, rfl, rfl, _, rfl, _, rfl, (by omega), ?_⟩
    rw [slice_from (by omega)]
    have e2 : (S (cs.take at_.toNat) ++ S [c]) ++ S (cs.drop (at_ + 1).toNat) = S ((cs.take at_.toNat ++ [c]) ++ cs.drop (at_ + 1).toNat) := by rw [S_cat, S_cat]
    have e3 : (S (cs.take at_.toNat) ++ S [c]).length ≤ 17 := by rw [S_cat, S_len, List.length_append, List.length_take]; simp; omega
    have e4 : (S (cs.drop (at_ + 1).toNat)).length ≤ 16 := by rw [S_len, List.length_drop]; omega
    refine ⟨_, _, rfl, rfl, Nat.le_trans (Nat.add_le_add e3 e4) (by omega), ?_⟩
    refine ⟨_, rfl, ?_⟩
    have z := out ((cs.take at_.toNat ++ [c]) ++ cs.drop (at_ + 1).toNat) H5 (by
      rw [List.length_append, List.length_append, List.length_take, List.length_drop]
      simp
      omega) (fun d z => by
        rcases List.mem_append.mp z with z | z
        · rcases List.mem_append.mp z with z | z
          · exact ac d (List.mem_of_mem_take z)
          · simp at z; omega
        · exact ac d (List.mem_of_mem_drop z)) t5 (k4.trans k5)
    rw [← e2] at z
    exact z
end
end K1

/-! _law_is_name. -/
namespace K1
open PySem PySem.Spec PyProof.Rows L2 LamX SX

/-- None, a truth, an integer, a text -/
def flat1 : PyData → Bool
  | .none => true
  | .bool _ => true
  | .int _ => true
  | .str x => PyData.strOk x
  | _ => false
theorem flat_lay : ∀ {ds : List PyData}, (∀ d ∈ ds, flat1 d = true) → PyData.canLayAll0 ds = true
  | [], _ => by simp [PyData.canLayAll0]
  | d :: ds, h => by
    have a := flat_lay (ds := ds) fun x hx => h x (List.mem_cons_of_mem _ hx)
    have b := h d List.mem_cons_self
    cases d <;> simp [flat1] at b <;> simp [PyData.canLayAll0, PyData.canLay0, a] <;> exact b
theorem flat_depth : ∀ {ds : List PyData}, (∀ d ∈ ds, flat1 d = true) → PyData.depthAll ds ≤ 2
  | [], _ => by simp [PyData.depthAll]
  | d :: ds, h => by
    have a := flat_depth (ds := ds) fun x hx => h x (List.mem_cons_of_mem _ hx)
    have b := h d List.mem_cons_self
    cases d <;> simp [flat1] at b <;> simp only [PyData.depthAll, PyData.depth] <;> omega
theorem flat_shaped {ds : List PyData} (h : ∀ d ∈ ds, flat1 d = true) : SeqAt.shaped (.list ds) = true ∧ SeqAt.shaped (.tuple ds) = true := by
  have h1 := flat_depth h
  have h2 : PyData.depth (.list ds) ≤ 64 := by simp only [PyData.depth]; omega
  have h3 : PyData.depth (.tuple ds) ≤ 64 := by simp only [PyData.depth]; omega
  constructor
  · show (PyData.canLay0 (.list ds) && decide (PyData.depth (.list ds) ≤ 64)) = true
    rw [Bool.and_eq_true]
    exact ⟨by simp only [PyData.canLay0]; exact flat_lay h, decide_eq_true h2⟩
  · show (PyData.canLay0 (.tuple ds) && decide (PyData.depth (.tuple ds) ≤ 64)) = true
    rw [Bool.and_eq_true]
    exact ⟨by simp only [PyData.canLay0]; exact flat_lay h, decide_eq_true h3⟩
theorem eqv_nil (ds : List PyData) : PyData.eqv (.list ds) (.list []) = ds.isEmpty := by
  cases ds <;> simp [PyData.eqv, PyData.eqvAll]
theorem dps_str {K : PySem.W.Frag} {H : Hp} : ∀ xs : List Str, DpAll K H (xs.map V.str) (xs.map PyData.str)
  | [] => .nil
  | x :: xs => .cons (.str x) (dps_str xs)
theorem ok_S {l : List Nat} (h : ∀ c ∈ l, c < 128) : PyData.strOk (S l) = true := by
  unfold PyData.strOk
  rw [← Array.all_toList]
  exact List.all_eq_true.mpr fun c m => decide_eq_true (by have := h c m; omega)
theorem flat_strs {xs : List Str} (h : ∀ x ∈ xs, PyData.strOk x = true) : ∀ d ∈ xs.map PyData.str, flat1 d = true := fun d m => by
  obtain ⟨x, m2, rfl⟩ := List.mem_map.mp m
  exact h x m2
def spLName : Sp := fun vs H Q _ => ∃ l : List Nat, vs = [.str (S l)] ∧ l.length ≤ 1000 ∧ (∀ c ∈ l, c < 128) ∧ ∀ H', Same H H' → Q (.bl (nameOk l)) H'
section
variable {P : Program} {w : World} {K : PySem.W.Frag} {mg : Str → Option Value} {base : Heap} {f C CB : Addr} {fd : FuncData}
abbrev nLName : List Str := ["_law_text_here", "_law_small", "_law_figures", "_law_sign"]
theorem scLName : FnScope nLName ["_law_text_here"] (defScope sLIsName) := ⟨rfl, rfl, rfl, by decide +kernel, rfl, by decide +kernel, by decide +kernel⟩
theorem ok_lname (G : Glob mg) (F : DefAt K "_law_is_name" "_law_is_name" sLIsName f fd) : FnOk P w K mg base CX0 1 f fd ["_law_text_here"] spLName := by
  refine okN F scLName (fun vs H Q E ⟨p, e, _⟩ => by rw [e]; rfl) (fun cdv A outer s H vs Q E hr ⟨l, e, hl, al, q⟩ => ?_)
  subst e
  refine ⟨_, pss_cons (ps_asg (pe_tup (pa_cons pe_str (pa_cons pe_str pa_nil))) (pg_tup (by rfl) (pgs_cons (pg_name (i := 1) scLName.nd rfl (Or.inr rfl)) (pgs_cons (pg_name (i := 2) scLName.nd rfl (Or.inr rfl)) pgs_nil))))
    (pss_cons (ps_if (PW.pt (pw_or (pt_cmpR op_lt (pe_callB call_len_str (by rfl) G.len PySem.boot_len (pa_cons (pv 0) pa_nil)) pe_int (nomark _))
        (pw_or (pt_cmpR op_gt (pe_callB call_len_str (by rfl) G.len PySem.boot_len (pa_cons (pv 0) pa_nil)) pe_int (nomark _))
        (pw_or1 (pt_cmpR op_notIn_sign (pe_ix ix_str (pv 0) pe_int (fun _ _ => rfl)) (pv 1) rfl))))) (pss_one (ps_ret pe_bl)) pss_nil)
    (pss_one (ps_ret (pe_cmpR (op_eqD hr.units)
      (pe_lc (own := [("_law_sign", 3)]) (g := gName 3) rfl scLName.nd (pi_str (pv 0)) (blkOk_by (N := nLName) (sc := defScope sLIsName) (by decide +kernel))
        (fun _ _ _ _ _ => pg_name (i := 3) scLName.nd rfl (Or.inl rfl)) (fun _ _ _ _ _ => pts_one (PW.pt (pw_and (pt_cmpR op_notIn_sign (pv 3) (pv 1) rfl) (pw_and1 (pt_cmpR op_notIn_sign (pv 3) (pv 2) rfl))))) (fun _ _ _ _ _ => pv 3))
      (pe_lst pa_nil) (nomark _))))), ?_⟩
  have z1 : (S l).length = l.length := S_len _
  have line : (1000 : Nat) ≤ sizeLine := by decide +kernel
  refine ⟨(by show 2 ≤ sizeLine; decide), fun T nT => ?_⟩
  refine ⟨T, _, rfl, SqT.of upd_same, rfl, _, _, rfl, _, _, rfl, rfl, ?_⟩
  have s0 := upd_new (o := .tup [.str (Str.ofString "abcdefghijklmnopqrstuvwxyz"), .str (Str.ofString "0123456789")]) nT
  refine ⟨_, rfl, _, rfl, (by omega), _, _, rfl, rfl, _, rfl, ?_⟩
  rw [z1]
  by_cases h1 : 1 ≤ l.length
  · rw [decide_eq_false (show ¬ (l.length : Int) < 1 by omega)]
    refine iteF ⟨_, rfl, _, rfl, (by omega), _, _, rfl, rfl, _, rfl, ?_⟩
    rw [z1]
    by_cases h2' : l.length ≤ 12
    · rw [decide_eq_false (show ¬ (l.length : Int) > 12 by omega)]
      obtain ⟨c, r, rfl⟩ : ∃ c r, l = c :: r := List.exists_cons_of_ne_nil (by rintro rfl; simp at h1)
      refine iteF ⟨_, rfl, _, 0, c, rfl, rfl, (by omega), atI_nat (j := 0) rfl, _, rfl, c, _, rfl, rfl, _, rfl, ?_⟩
      rw [in_let]
      cases hc : isL c with
      | false =>
        have e : nameOk (c :: r) = false := by unfold nameOk; rw [List.head?_cons, Option.any_some, hc]; simp
        rw [e] at q
        exact iteT (q _ s0)
      | true =>
        refine iteF ⟨_, rfl, _, rfl, fun D hD => ?_⟩
        refine lc_it walk_str (fun i H2 => Same (upd H T (.tup [.str (Str.ofString "abcdefghijklmnopqrstuvwxyz"), .str (Str.ofString "0123456789")])) H2 ∧ H2 D = some (.lst (((((c :: r).take i).filter fun x => !isL x && !isD x).map fun c => S [c]).map V.str)))
          ⟨upd_new hD, by simpa using upd_same⟩ (fun _ _ _ _ => trivial) ?_ ?_
        · rintro i x H2 H3 hi ⟨s2, h2⟩ ⟨rfl, d, hd, rfl⟩
          have ed : (c :: r)[i]? = some d := by
            have : (S (c :: r)).cps.toList[i]? = some d := by simpa using hd
            exact this
          obtain ⟨hj, ej⟩ := List.getElem?_eq_some_iff.mp ed
          have tk : (c :: r).take (i + 1) = (c :: r).take i ++ [d] := by rw [List.take_succ_eq_append_getElem hj, ej]
          refine ⟨rfl, _, rfl, _, rfl, d, _, rfl, rfl, _, rfl, ?_⟩
          rw [in_let]
          have lenl : ((((c :: r).take i).filter fun x => !isL x && !isD x).map fun c => S [c]).length ≤ 12 := by
            rw [List.length_map]
            refine Nat.le_trans (List.length_filter_le _ _) ?_
            rw [List.length_take]
            omega
          have skip : (isL d || isD d) = true → (Same (upd H T (.tup [.str (Str.ofString "abcdefghijklmnopqrstuvwxyz"), .str (Str.ofString "0123456789")])) H3 ∧ H3 D = some (.lst (((((c :: r).take (i + 1)).filter fun x => !isL x && !isD x).map fun c => S [c]).map V.str))) := fun z => by
            refine ⟨s2, ?_⟩
            rw [tk, List.filter_append]
            have : [d].filter (fun x => !isL x && !isD x) = [] := by
              rw [List.filter_cons]
              cases e1 : isL d <;> cases e2 : isD d <;> simp_all
            rw [this, List.append_nil]
            exact h2
          cases hl : isL d with
          | true => exact iteF (iteF (skip (by rw [hl]; rfl)))
          | false =>
            refine iteT ⟨_, rfl, _, rfl, d, _, rfl, rfl, _, rfl, ?_⟩
            rw [in_dig]
            cases hg : isD d with
            | true => exact iteF (skip (by rw [hl, hg]; rfl))
            | false =>
              refine iteT ⟨_, rfl, _, h2, ?_, fun a o e => ?_, ?_⟩
              · rw [List.length_map, sizeLine_eq]
                omega
              · rw [upd_ne (ne_of_none e hD)]
                exact s2 a o e
              · rw [upd_same, tk, List.filter_append]
                have : [d].filter (fun x => !isL x && !isD x) = [d] := by
                  rw [List.filter_cons, hl, hg]
                  rfl
                rw [this, List.map_append, List.map_append]
                rfl
        · rintro H2 ⟨s2, h2⟩
          rw [show (S (c :: r)).cps.size = (c :: r).length from z1, List.take_length] at h2
          refine ⟨(by show 0 ≤ sizeLine; decide), fun L nL => ?_⟩
          have s3 := upd_new (o := .lst []) nL
          have fl := flat_strs (xs := (((c :: r).filter fun x => !isL x && !isD x).map fun c => S [c])) (fun x m => by
            obtain ⟨y, m2, rfl⟩ := List.mem_map.mp m
            exact ok_S fun d z => by
              simp at z
              subst z
              exact al d (List.mem_filter.mp m2).1)
          refine ⟨_, .list [], .lst (SqL.of (s3 _ _ h2)) (dps_str _), .lst (SqL.of upd_same) .nil, (flat_shaped fl).1, (flat_shaped (ds := []) fun _ z => nomatch z).1, ?_⟩
          rw [eqv_nil]
          have e : nameOk (c :: r) = ((((c :: r).filter fun x => !isL x && !isD x).map fun c => S [c]).map PyData.str).isEmpty := by
            unfold nameOk
            rw [decide_eq_true h1, decide_eq_true h2', List.head?_cons, Option.any_some, hc]
            rw [Bool.true_and, Bool.true_and, Bool.eq_iff_iff]
            have or2 : ∀ x, (isL x = true ∨ isD x = true) ↔ (isL x = false → isD x = true) := fun x => by cases isL x <;> simp
            simp only [Bool.true_and, List.all_eq_true, List.isEmpty_iff, List.map_eq_nil_iff, List.filter_eq_nil_iff, Bool.or_eq_true, Bool.and_eq_true, Bool.not_eq_true']
            refine ⟨fun h x m z => ?_, fun h x m => ?_⟩
            · have := h x m
              rw [z.1, z.2] at this
              simp at this
            · have := h x m
              cases e1 : isL x <;> cases e2 : isD x <;> simp_all
          rw [← e]
          exact q _ ((s0.trans s2).trans s3)
    · have e : nameOk l = false := by unfold nameOk; rw [decide_eq_false h2']; simp
      rw [decide_eq_true (show (l.length : Int) > 12 by omega)]
      rw [e] at q
      exact iteT (q _ s0)
  · have e : nameOk l = false := by unfold nameOk; rw [decide_eq_false h1]; simp
    rw [decide_eq_true (show (l.length : Int) < 1 by omega)]
    rw [e] at q
    exact iteT (q _ s0)
end
end K1

/-! _law_pair, _law_divisor, _law_due, _law_is. -/
namespace K1
open PySem PySem.Spec PyProof.Rows L2 LamX SX

def spPair : Sp := fun vs H Q _ => ∃ (p : Addr) (n : Nat), vs = [.ref p] ∧ TubAt H p n ∧ n + 5 ≤ 1000 ∧
  ∀ (t b : Int) (T : Addr) (H' : Hp), b ≠ 0 → t.natAbs < 10 ^ 26 → b.natAbs < 10 ^ 26 → H T = none → H' T = some (.tup [.int t, .int b]) → TubAt H' p (n + 5) → Keep p H H' → Q (.ref T) H'
def spDivisor : Sp := fun vs H Q _ => ∃ t b : Int, vs = [.int t, .int b] ∧ Q (.int (Int.gcd t b : Nat)) H
def spDue : Sp := fun vs H Q _ => ∃ t b : Int, vs = [.int t, .int b] ∧ b ≠ 0 ∧ Sm 8000 t ∧ Sm 8000 b ∧ ∀ T H', Same H H' → H T = none → H' T = some (.tup [.int (rT t b), .int (rB t b)]) → Q (.ref T) H'
def spIs (C : Addr) : Sp := fun vs H Q _ => ∃ (a : Addr) (t b : Int), vs = [.ref a, .int t, .int b] ∧ b ≠ 0 ∧ Sm 8000 t ∧ Sm 8000 b ∧ RatAt C H a (rT t b) (rB t b) ∧ ∀ H', Same H H' → Q (.bl true) H'
structure HasDivisor (P : Program) (w : World) (K : PySem.W.Frag) (mg : Str → Option Value) (base : Heap) : Prop where
  h : ∃ f fd, mg "_law_divisor" = some (.ref f) ∧ PySem.W.keepIn K (.ref f) = true ∧ Binds K fd ["_law_one", "_law_other"] [] ∧ FnOk P w K mg base CX0 1 f fd ["_law_one", "_law_other"] spDivisor
structure HasDue (P : Program) (w : World) (K : PySem.W.Frag) (mg : Str → Option Value) (base : Heap) : Prop where
  h : ∃ f fd, mg "_law_due" = some (.ref f) ∧ PySem.W.keepIn K (.ref f) = true ∧ Binds K fd ["_law_top", "_law_bottom"] [] ∧ FnOk P w K mg base CX0 2 f fd ["_law_top", "_law_bottom"] spDue
section
variable {P : Program} {w : World} {K : PySem.W.Frag} {mg : Str → Option Value} {base : Heap} {f C CB : Addr} {fd : FuncData}
theorem scPair : FnScope ["_law_tub_here", "_law_great", "_law_bottom"] ["_law_tub_here"] (defScope sPair) := ⟨rfl, rfl, rfl, by decide +kernel, rfl, by decide +kernel, by decide +kernel⟩
theorem ok_pair (HS : HasScoop P w K mg base) (F : DefAt K "_law_pair" "_law_pair" sPair f fd) : FnOk P w K mg base CX0 2 f fd ["_law_tub_here"] spPair := by
  obtain ⟨fs, fds, mS, kS, bS, GS⟩ := HS.h
  refine okN F scPair (fun vs H Q E ⟨p, n, e, _⟩ => by rw [e]; rfl) (fun cdv A outer s H vs Q E hr ⟨p, n, e, hT, hn, q⟩ => ?_)
  subst e
  refine ⟨_, pss_cons (ps_set (i := 1) scPair.nd rfl (Or.inl rfl) (pe_ix ix_tup (pe_tup (pa_cons pe_int (pa_cons pe_int (pa_cons (pe_op op_pow pe_int pe_int) (pa_cons (pe_op op_pow pe_int pe_int) pa_nil)))))
        (pe_call GS hr rfl mS kS bS .nil pass0 (pa_cons (pv 0) (pa_cons pe_int pa_nil))) (fun _ _ => rfl)))
    (pss_cons (ps_set (i := 2) scPair.nd rfl (Or.inl rfl) (pe_op op_mul (pe_op op_sub (pe_op op_mul pe_int (pe_call GS hr rfl mS kS bS .nil pass0 (pa_cons (pv 0) (pa_cons pe_int pa_nil)))) pe_int)
      (pe_op op_add pe_int (pe_call GS hr rfl mS kS bS .nil pass0 (pa_cons (pv 0) (pa_cons (pv 1) pa_nil))))))
    (pss_one (ps_ret (pe_tup (pa_cons (pe_op op_mul (pe_op op_sub (pe_op op_mul pe_int (pe_call GS hr rfl mS kS bS .nil pass0 (pa_cons (pv 0) (pa_cons pe_int pa_nil)))) pe_int)
      (pe_call GS hr rfl mS kS bS .nil pass0 (pa_cons (pv 0) (pa_cons (pv 1) pa_nil)))) (pa_cons (pv 2) pa_nil)))))), ?_⟩
  refine ⟨_, _, rfl, rfl, ⟨by decide, by decide, by decide⟩, _, _, rfl, rfl, ⟨by decide, by decide, by decide⟩, (by show 4 ≤ sizeLine; decide), fun T nT => ?_⟩
  have v7 : (10 : Int) ^ (7 : Int).toNat = 10 ^ 7 := rfl
  have v25 : (10 : Int) ^ (25 : Int).toNat = 10 ^ 25 := rfl
  have hT1 := hT.upd (o := .tup [V.int 4, .int 13, .int (10 ^ (7 : Int).toNat), .int (10 ^ (25 : Int).toNat)]) (hT.ne nT)
  refine dip_c (i := 0) rfl hT1 (by omega) (by decide) (by decide +kernel) fun r H1 r0 r1 t1 k1 => ?_
  have k01 : Keep p H H1 := (Same.keep (upd_new nT)).trans k1
  obtain ⟨m, em, m0, m1⟩ : ∃ m : Int, atI [V.int 4, .int 13, .int (10 ^ (7 : Int).toNat), .int (10 ^ (25 : Int).toNat)] r = some (.int m) ∧ 0 < m ∧ m ≤ 10 ^ 25 := by
    have z : r = 0 ∨ r = 1 ∨ r = 2 ∨ r = 3 := by omega
    rcases z with rfl | rfl | rfl | rfl
    · exact ⟨_, rfl, by decide, by decide⟩
    · exact ⟨_, rfl, by decide, by decide⟩
    · exact ⟨_, rfl, by rw [v7]; decide, by rw [v7]; decide⟩
    · exact ⟨_, rfl, by rw [v25]; decide, by rw [v25]; decide⟩
  have m300 : m < 2 ^ 300 := Int.lt_of_le_of_lt m1 (by decide +kernel)
  refine ⟨T, _, _, _, rfl, rfl, SqT.of (k1 _ _ (hT.ne nT) upd_same), em, ?_⟩
  refine dip_c (i := 0) rfl t1 (by omega) (by decide) (by decide +kernel) fun u H2 u0 u1 t2 k2 => ?_
  refine ⟨_, _, rfl, rfl, .inl ⟨by decide, by decide⟩, _, _, rfl, rfl, ?_⟩
  refine dip_v (i := 0) (j := 1) rfl rfl t2 (by omega) m0 m300 fun x H3 x0 x1 t3 k3 => ?_
  refine ⟨_, _, rfl, rfl, _, _, rfl, rfl, .inl ⟨by omega, by omega⟩, ?_⟩
  refine dip_c (i := 0) rfl t3 (by omega) (by decide) (by decide +kernel) fun v H4 v0 v1 t4 k4 => ?_
  refine ⟨_, _, rfl, rfl, .inl ⟨by decide, by decide⟩, _, _, rfl, rfl, ?_⟩
  refine dip_v (i := 0) (j := 1) rfl rfl t4 (by omega) m0 m300 fun y H5 y0 y1 t5 k5 => ?_
  refine ⟨_, _, rfl, rfl, .inl ⟨by omega, by omega⟩, _, rfl, (by show 2 ≤ sizeLine; decide), fun L nL => ?_⟩
  have z26 : (10 : Nat) ^ 25 < 10 ^ 26 := by decide
  have zi : ((10 : Nat) ^ 25 : Nat) = ((10 : Int) ^ 25) := by decide
  have nb : ∀ c d : Int, (c = 0 ∨ c = 1) → ((2 * c - 1) * d).natAbs = d.natAbs := fun c d h => by
    rcases h with rfl | rfl
    · show (-1 * d).natAbs = _; omega
    · show (1 * d).natAbs = _; omega
  have hb := nb u (1 + x) (by omega)
  have ht := nb v y (by omega)
  refine q _ _ L _ (fun z => by rw [z] at hb; omega) (by omega) (by omega) ?_ upd_same (t5.upd (t5.ne nL)) (((((k01.trans k2).trans k3).trans k4).trans k5).trans (Same.keep (upd_new nL)))
  exact TubAt.free ((((k01.trans k2).trans k3).trans k4).trans k5) t5 nL
theorem scDivisor : FnScope ["_law_one", "_law_other"] ["_law_one", "_law_other"] (defScope sDivisor) := ⟨rfl, rfl, rfl, by decide +kernel, rfl, by decide +kernel, by decide +kernel⟩
theorem ok_divisor (G : Glob mg) (F : DefAt K "_law_divisor" "_law_divisor" sDivisor f fd) : FnOk P w K mg base CX0 1 f fd ["_law_one", "_law_other"] spDivisor := by
  refine okN F scDivisor (fun vs H Q E ⟨p, n, e, _⟩ => by rw [e]; rfl) (fun cdv A outer s H vs Q E hr ⟨t, b, e, q⟩ => ?_)
  subst e
  refine ⟨_, pss_cons (ps_while PassesOwn.never (pt_cmpR op_ne (pv 1) pe_int (nomark _)) (pss_one (ps_par (i := 0) (j := 1) (by rfl) scDivisor.nd rfl rfl (by decide) rfl rfl (pa_cons (pv 1) (pa_cons (pe_op op_modN (pv 0) (pv 1)) pa_nil)) (by rfl))))
    (pss_one (ps_ret (pe_callB call_abs (by rfl) G.abs (by decide +kernel) (pa_cons (pv 0) pa_nil)))), ?_⟩
  refine while_by (fun σ H2 => H2 = H ∧ ∃ x y : Int, σ = [some (.int x), some (.int y)] ∧ Int.gcd x y = Int.gcd t b) (fun σ _ => match σ with | [_, some (.int y)] => y.natAbs | _ => 0) ⟨rfl, t, b, rfl, rfl⟩ ?_ ?_
  · rintro σ H2 ⟨rfl, x, y, rfl, hg⟩
    refine ⟨_, rfl, rfl, _, rfl, ?_⟩
    by_cases hy : y = 0
    · subst hy
      refine ite2 (fun z => by simp at z) fun _ => ?_
      refine ⟨_, rfl, x, rfl, ?_⟩
      have e : (if x < 0 then -x else x) = ((Int.gcd t b : Nat) : Int) := by
        rw [← hg, Int.gcd_zero_right]
        split <;> omega
      rw [e]
      exact q
    · refine ite2 (fun _ => ?_) fun z => absurd (by simp at z; exact z) hy
      refine ⟨_, rfl, _, rfl, _, rfl, _, _, rfl, rfl, hy, _, _, rfl, ?_⟩
      exact ⟨⟨rfl, y, x.fmod y, rfl, (euclid_step x y).trans hg⟩, fmod_small hy⟩
  · rintro σ H Q Q' h ⟨v, e, z1, k, e2, z⟩
    exact ⟨v, e, z1, k, e2, h _ _ z⟩
theorem scDue : FnScope ["_law_top", "_law_bottom", "_law_common"] ["_law_top", "_law_bottom"] (defScope sDue) := ⟨rfl, rfl, rfl, by decide +kernel, rfl, by decide +kernel, by decide +kernel⟩
theorem ok_due (HD : HasDivisor P w K mg base) (F : DefAt K "_law_due" "_law_due" sDue f fd) : FnOk P w K mg base CX0 2 f fd ["_law_top", "_law_bottom"] spDue := by
  obtain ⟨fs, fds, mS, kS, bS, GS⟩ := HD.h
  refine okN F scDue (fun vs H Q E ⟨p, n, e, _⟩ => by rw [e]; rfl) (fun cdv A outer s H vs Q E hr ⟨t, b, e, hb, st, sb, q⟩ => ?_)
  subst e
  refine ⟨_, pss_cons (ps_set (i := 2) scDue.nd rfl (Or.inl rfl) (pe_call GS hr rfl mS kS bS .nil pass0 (pa_cons (pv 0) (pa_cons (pv 1) pa_nil))))
    (pss_cons (ps_if (pt_cmpR op_lt (pv 1) pe_int (nomark _)) (pss_one (ps_set (i := 2) scDue.nd rfl (Or.inl rfl) (pe_un un_neg (pv 2)))) pss_nil)
    (pss_one (ps_ret (pe_tup (pa_cons (pe_op op_fdivZ (pv 0) (pv 2)) (pa_cons (pe_op op_fdivZ (pv 1) (pv 2)) pa_nil)))))), ?_⟩
  have dv : ∀ x, CDivZ x (com t b) := fun x => ⟨com_ne hb, by
    have l : (com t b).natAbs ≤ b.natAbs := by rw [com_abs]; exact Nat.gcd_le_right _ (by omega)
    have : Sm 8000 (com t b) := Nat.lt_of_le_of_lt l sb
    exact Nat.lt_trans (this.log (by decide)) (by decide)⟩
  have hc : ((Int.gcd t b : Nat) : Int) = ((Nat.gcd t.natAbs b.natAbs : Nat) : Int) := rfl
  refine ⟨_, rfl, _, rfl, t, b, rfl, _, rfl, _, _, rfl, rfl, _, rfl, ?_⟩
  by_cases h0 : b < 0
  · rw [decide_eq_true h0]
    have e : -((Int.gcd t b : Nat) : Int) = com t b := by unfold com; rw [if_neg (by omega)]; rfl
    refine iteT ⟨_, rfl, _, rfl, ?_⟩
    dsimp only [gName]
    rw [e]
    refine ⟨_, rfl, _, rfl, _, _, rfl, rfl, dv t, _, rfl, _, rfl, _, _, rfl, rfl, dv b, (by show 2 ≤ sizeLine; decide), fun L nL => ?_⟩
    exact q L _ (upd_new nL) nL upd_same
  · rw [decide_eq_false h0]
    have e : ((Int.gcd t b : Nat) : Int) = com t b := by unfold com; rw [if_pos (by omega)]; rfl
    refine iteF ?_
    rw [e]
    refine ⟨_, rfl, _, rfl, _, _, rfl, rfl, dv t, _, rfl, _, rfl, _, _, rfl, rfl, dv b, (by show 2 ≤ sizeLine; decide), fun L nL => ?_⟩
    exact q L _ (upd_new nL) nL upd_same
theorem scIs : FnScope ["_law_ratio", "_law_top", "_law_bottom"] ["_law_ratio", "_law_top", "_law_bottom"] (defScope sIs) := ⟨rfl, rfl, rfl, by decide +kernel, rfl, by decide +kernel, by decide +kernel⟩
theorem ok_is (G : Glob mg) (R : RatF K C) (gR : mg "Ratio" = some (.ref C)) (HD : HasDue P w K mg base) (F : DefAt K "_law_is" "_law_is" sIs f fd) : FnOk P w K mg base CX0 3 f fd ["_law_ratio", "_law_top", "_law_bottom"] (spIs C) := by
  obtain ⟨fs, fds, mS, kS, bS, GS⟩ := HD.h
  refine okN F scIs (fun vs H Q E ⟨p, n, _, e, _⟩ => by rw [e]; rfl) (fun cdv A outer s H vs Q E hr ⟨a, t, b, e, hb, st, sb, ha, q⟩ => ?_)
  subst e
  refine ⟨_, pss_one (ps_ret (pe_and (pe_callB call_isi (by rfl) G.isi (by decide +kernel) (pa_cons (pv 0) (pa_cons (pe_glob (v := .ref C) rfl gR rfl) pa_nil)))
    (pe_one (pe_cmpR (op_eqD hr.units) (pe_tup (pa_cons (pe_fld (pv 0) rfl) (pa_cons (pe_fld (pv 0) rfl) pa_nil))) (pe_call GS hr rfl mS kS bS .nil pass0 (pa_cons (pv 1) (pa_cons (pv 2) pa_nil))) (nomark _))))), ?_⟩
  obtain ⟨dx, h1⟩ := id ha
  refine ⟨_, rfl, _, _, _, _, _, rfl, .own C, .base (ha.ty R), R.me, true, rfl, iteT ?_⟩
  refine ⟨_, rfl, a, C, dx, _, _, rfl, h1, R.cl, R.nT, fsR_top _ _, _, rfl, a, C, dx, _, _, rfl, h1, R.cl, R.nB, fsR_bottom _ _, (by show 2 ≤ sizeLine; decide), fun L nL => ?_⟩
  have s1 := upd_new (o := .tup [V.int (rT t b), .int (rB t b)]) nL
  refine ⟨_, rfl, _, rfl, t, b, rfl, hb, st, sb, fun M H2 s2 nM h2 => ?_⟩
  have sh : SeqAt.shaped (.tuple [.int (rT t b), .int (rB t b)]) = true := (flat_shaped fun d z => by
    simp at z
    rcases z with rfl | rfl <;> rfl).2
  refine ⟨.tuple [.int (rT t b), .int (rB t b)], .tuple [.int (rT t b), .int (rB t b)], .tup (SqT.of (s2 _ _ upd_same)) (.cons (.int _) (.cons (.int _) .nil)), .tup (SqT.of h2) (.cons (.int _) (.cons (.int _) .nil)), sh, sh, ?_⟩
  have e : PyData.eqv (.tuple [.int (rT t b), .int (rB t b)]) (.tuple [.int (rT t b), .int (rB t b)]) = true := by simp [PyData.eqv, PyData.eqvAll]
  rw [e]
  exact q _ (s1.trans s2)
end
end K1

/-! _law_checks_right. -/
namespace K1
open PySem PySem.Spec PyProof.Rows L2 LamX SX

/-- a def of the module that is called by its name -/
structure Has (P : Program) (w : World) (K : PySem.W.Frag) (mg : Str → Option Value) (base : Heap) (CX : CXT) (k : Nat) (x : Str) (ps : List Str) (sp : Sp) : Prop where
  h : ∃ f fd, mg x = some (.ref f) ∧ PySem.W.keepIn K (.ref f) = true ∧ Binds K fd ps [] ∧ FnOk P w K mg base CX k f fd ps sp
theorem dip_p {σ : L2.St} {i : Nat} {H : Hp} {p : Addr} {n : Nat} {a b : Int} {Q : VK} {E : XK} (hv : σ[i]? = some (some (.ref p))) (c : CPow a b) (h : TubAt H p n) (hn : n < 1000) (m0 : 0 < a ^ b.toNat) (m1 : a ^ b.toNat < 2 ^ 300) (k : ∀ r H', 0 ≤ r → r < a ^ b.toNat → TubAt H' p (n + 1) → Keep p H H' → Q (.int r) H') :
    tCall spDip [] E (tCons (tVar i) (tCons (tOp (rI CPow fun i j => V.int (i ^ j.toNat)) (tC (.int a)) (tC (.int b))) tNil)) σ H Q := ⟨_, hv, _, _, rfl, rfl, c, dip_of (E := E) h hn m0 m1 k⟩
theorem mk_var {K : PySem.W.Frag} {C CB : Addr} {σ : L2.St} {i : Nat} {H : Hp} {n : Int} {Q : VK} {E : XK} (hv : σ[i]? = some (some (.int n))) (hn : Sm 8000 n) (q : ∀ p H', Same H H' → H p = none → RatAt C H' p n 1 → Q (.ref p) H') : tMake C (spRI K C CB) [V.int 1] E (tCons (tVar i) tNil) σ H Q :=
  ⟨_, hv, mk_new (by decide) hn (Sm.one (by decide)) fun p H' s hp r => by
    obtain ⟨e1, e2⟩ := red_one n
    rw [e1, e2] at r
    exact q p H' s hp r⟩
theorem NotInt.bl {K : PySem.W.Frag} {H : Hp} (b : Bool) : NotInt K H (.bl b) := (Odd.bl b).not
theorem pow60 {x : Int} (h0 : 0 ≤ x) (h1 : x < (10 : Int) ^ (60 : Int).toNat) : Sm 200 x := by
  unfold Sm
  have e : (10 : Int) ^ (60 : Int).toNat = ((10 ^ 60 : Nat) : Int) := by decide +kernel
  rw [e] at h1
  exact Nat.lt_of_lt_of_le (show x.natAbs < 10 ^ 60 by omega) (by decide +kernel)
def spChecks : Sp := fun vs H Q _ => ∃ (p : Addr) (n : Nat), vs = [.ref p] ∧ TubAt H p n ∧ n + 24 ≤ 1000 ∧ ∀ H', TubAt H' p (n + 24) → Keep p H H' → Q (.bl true) H'
/-- all of them are no integers -/
def NoInts (K : PySem.W.Frag) (H : Hp) (xs : List V) : Prop := ∀ (i : Nat) (v : V), xs[i]? = some v → NotInt K H v
section
variable {P : Program} {w : World} {K : PySem.W.Frag} {mg : Str → Option Value} {base : Heap} {f C CB : Addr} {fd : FuncData}
abbrev nChk : List Str := ["_law_tub_here", "_law_text_here", "_law_below", "_law_above", "_law_number", "_law_plain", "_law_value", "_law_least", "_law_most"]
theorem scChk : FnScope nChk ["_law_tub_here"] (defScope sChecks) := ⟨rfl, rfl, rfl, by decide +kernel, rfl, by decide +kernel, by decide +kernel⟩
theorem ok_checks (R : RatF K C) (HI : HasInt P w K mg base) (MR : MkR P w K mg base C CB) (HS : HasScoop P w K mg base) (HT : Has P w K mg base CX0 2 "_law_text" ["_law_tub_here"] spText) (HN : Has P w K mg base CX0 1 "is_name" ["value"] (spName K))
    (HL : Has P w K mg base CX0 1 "_law_is_name" ["_law_text_here"] spLName) (HW : Has P w K mg base CX0 2 "is_within" ["value", "least", "most"] (spWithin K)) (F : DefAt K "_law_checks_right" "_law_checks_right" sChecks f fd) : FnOk P w K mg base CX0 5 f fd ["_law_tub_here"] spChecks := by
  obtain ⟨fi, fdi, mI, kI, bI, GI⟩ := HI.h
  obtain ⟨fm, fdm, ds, M, GM, bM0, hv, bM⟩ := MR.m
  obtain ⟨fs, fds, mS, kS, bS, GS⟩ := HS.h
  obtain ⟨ft, fdt, mT, kT, bT, GT⟩ := HT.h
  obtain ⟨fn, fdn, mN, kN, bN, GN⟩ := HN.h
  obtain ⟨fl, fdl, mL, kL, bL, GL⟩ := HL.h
  obtain ⟨fw, fdw, mW, kW, bW, GW⟩ := HW.h
  refine okN F scChk (fun vs H Q E ⟨p, n, e, _⟩ => by rw [e]; rfl) (fun cdv A outer s H vs Q E hr ⟨p, n, e, tub, hn, q⟩ => ?_)
  subst e
  have h1 := hr.mono (show 1 ≤ 4 by decide)
  have h2 := hr.mono (show 2 ≤ 4 by decide)
  refine ⟨_, pss_cons (ps_par3 (i := 1) (j := 2) (l := 3) (by rfl) scChk.nd rfl rfl rfl (by decide) (by decide) (by decide) rfl rfl rfl
      (pa_cons (pe_call GT h2 rfl mT kT bT .nil pass0 (pa_cons (pv 0) pa_nil)) (pa_cons (pe_op op_sub (pe_call GS h1 rfl mS kS bS .nil pass0 (pa_cons (pv 0) (pa_cons pe_int pa_nil))) pe_int)
        (pa_cons (pe_op op_sub (pe_call GS h1 rfl mS kS bS .nil pass0 (pa_cons (pv 0) (pa_cons pe_int pa_nil))) pe_int) pa_nil))) (by rfl))
    (pss_cons (ps_set (i := 4) scChk.nd rfl (Or.inl rfl) (pe_op op_mul (pe_op op_sub (pe_op op_mul pe_int (pe_call GS h1 rfl mS kS bS .nil pass0 (pa_cons (pv 0) (pa_cons pe_int pa_nil)))) pe_int)
      (pe_call GS h1 rfl mS kS bS .nil pass0 (pa_cons (pv 0) (pa_cons (pe_op op_pow pe_int pe_int) pa_nil)))))
    (pss_cons (ps_if (PW.pt (pw_or (pt_cmpR op_ne (pe_call GN h1 rfl mN kN bN .nil pass0 (pa_cons (pv 1) pa_nil)) (pe_call GL h1 rfl mL kL bL .nil pass0 (pa_cons (pv 1) pa_nil)) (nomark _))
      (pw_or (pt_val (pe_call GN h1 rfl mN kN bN .nil pass0 (pa_cons (pe_lst (pa_cons (pv 1) pa_nil)) pa_nil)))
      (pw_or (pt_val (pe_call GN h1 rfl mN kN bN .nil pass0 (pa_cons (pv 4) pa_nil))) (pw_or1 (pt_val (pe_call GN h1 rfl mN kN bN .nil pass0 (pa_cons pe_non pa_nil)))))))) (pss_one (ps_ret pe_bl)) pss_nil)
    (pss_cons (ps_set (i := 5) scChk.nd rfl (Or.inl rfl) (pe_lst (pa_cons pe_non (pa_cons pe_bl (pa_cons pe_bl (pa_cons (pv 1) (pa_cons (pe_lst (pa_cons (pv 4) pa_nil)) (pa_cons (pe_tup (pa_cons (pv 4) pa_nil))
      (pa_cons (pe_disp (pps_cons pe_str (pv 4) pps_nil) rfl rfl (List.cons_ne_nil _ _) (by decide)) (pa_cons (pe_make M GM hr rfl MR.g bM hv passL (pa_cons (pv 4) pa_nil)) pa_nil))))))))))
    (pss_cons (ps_for PassesOwn.never rfl (pi_list (pv 5)) (pg_name (i := 6) scChk.nd rfl (Or.inl rfl))
      (pss_one (ps_if (PW.pt (pw_or (pt_val (pe_call GI h1 rfl mI kI bI .nil pass0 (pa_cons (pv 6) pa_nil))) (pw_or (pt_val (pe_call GW h2 rfl mW kW bW .nil pass0 (pa_cons (pv 6) (pa_cons pe_non (pa_cons pe_non pa_nil)))))
        (pw_or1 (pt_val (pe_call GW h2 rfl mW kW bW .nil pass0 (pa_cons (pv 6) (pa_cons (pe_op op_sub pe_int (pe_op op_pow pe_int pe_int)) (pa_cons (pe_op op_pow pe_int pe_int) pa_nil))))))))) (pss_one (ps_ret pe_bl)) pss_nil)))
    (pss_cons (ps_par (i := 7) (j := 8) (by rfl) scChk.nd rfl rfl (by decide) rfl rfl (pa_cons (pe_op op_add (pv 4) (pv 2)) (pa_cons (pe_op op_add (pv 4) (pv 3)) pa_nil)) (by rfl))
    (pss_cons (ps_if (PW.pt (pw_or (pt_not (pt_val (pe_call GI h1 rfl mI kI bI .nil pass0 (pa_cons (pv 4) pa_nil)))) (pw_or1 (pt_not (pt_val (pe_call GW h2 rfl mW kW bW .nil pass0 (pa_cons (pv 4) (pa_cons pe_non (pa_cons pe_non pa_nil))))))))) (pss_one (ps_ret pe_bl)) pss_nil)
    (pss_cons (ps_if (PW.pt (pw_or (pt_cmpR op_ne (pe_call GW h2 rfl mW kW bW .nil pass0 (pa_cons (pv 4) (pa_cons (pv 7) (pa_cons pe_non pa_nil)))) (pe_cmpR op_le (pv 7) (pv 4) (nomark _)) (nomark _))
      (pw_or1 (pt_cmpR op_ne (pe_call GW h2 rfl mW kW bW .nil pass0 (pa_cons (pv 4) (pa_cons pe_non (pa_cons (pv 8) pa_nil)))) (pe_cmpR op_le (pv 4) (pv 8) (nomark _)) (nomark _))))) (pss_one (ps_ret pe_bl)) pss_nil)
    (pss_one (ps_ret (pe_cmpR op_eq (pe_call GW h2 rfl mW kW bW .nil pass0 (pa_cons (pv 4) (pa_cons (pv 7) (pa_cons (pv 8) pa_nil)))) (pe_chain op_le op_le (pv 7) (pv 4) (pv 8)) (nomark _)))))))))))
    , ?_⟩
  have line : (1000 : Nat) ≤ sizeLine := by decide +kernel
  refine call1 (i := 0) rfl ⟨p, n, rfl, tub, by omega, fun l H1 l17 al t1 k1 => ?_⟩
  refine dip_c (i := 0) rfl t1 (by omega) (by decide) (by decide +kernel) fun u H2 u0 u1 t2 k2 => ?_
  refine ⟨_, _, rfl, rfl, ?_⟩
  refine dip_c (i := 0) rfl t2 (by omega) (by decide) (by decide +kernel) fun v H3 v0 v1 t3 k3 => ?_
  refine ⟨_, _, rfl, rfl, _, _, _, rfl, ?_⟩
  refine dip_c (i := 0) rfl t3 (by omega) (by decide) (by decide +kernel) fun w H4 w0 w1 t4 k4 => ?_
  refine ⟨_, _, rfl, rfl, .inl ⟨by decide, by decide⟩, _, _, rfl, rfl, ?_⟩
  refine dip_p (i := 0) rfl ⟨by decide, by decide, by decide⟩ t4 (by omega) (by decide +kernel) (by decide +kernel) fun x H5 x0 x1 t5 k5 => ?_
  refine ⟨_, _, rfl, rfl, .inl ⟨by omega, by omega⟩, ?_⟩
  have k05 : Keep p H H5 := (((k1.trans k2).trans k3).trans k4).trans k5
  have t5' : TubAt H5 p (n + 24) := t5
  obtain ⟨N, hN, smN⟩ : ∃ N : Int, (2 * w - 1) * x = N ∧ Sm 300 N := ⟨_, rfl, by
    have y2 : Sm 1 (2 * w - 1) := by unfold Sm; omega
    exact (y2.mul (pow60 x0 x1)).mono (by omega)⟩
  dsimp only [gName]
  rw [hN]
  have kS : ∀ {T : String}, T ∈ ["list", "int", "NoneType"] → PySem.W.kitOne K (.type T) (.type "str") = some false := fun {T} h => by
    simp only [List.mem_cons, List.not_mem_nil, or_false] at h
    rcases h with rfl | rfl | rfl <;> exact kit_ty (by decide +kernel)
  refine ⟨_, rfl, _, rfl, .inr ⟨l, rfl, (by omega), fun H6 s6 => ?_⟩⟩
  refine ⟨_, rfl, l, rfl, (by omega), al, fun H7 s7 => ⟨rfl, _, rfl, ?_⟩⟩
  rw [decide_eq_true rfl]
  refine iteF ⟨_, rfl, (by show 1 ≤ sizeLine; decide), fun L nL => ⟨_, rfl, .inl ⟨_, .lst upd_same, kS (by simp), false, rfl, iteF ?_⟩⟩⟩
  refine ⟨_, rfl, _, rfl, .inl ⟨_, .int N, kS (by simp), false, rfl, iteF ?_⟩⟩
  refine ⟨_, rfl, .inl ⟨_, .non, kS (by simp), false, rfl, iteF ?_⟩⟩
  have s58 : Same H5 (upd H7 L (.lst [.str (S l)])) := (s6.trans s7).trans (upd_new nL)
  generalize upd H7 L (.lst [V.str (S l)]) = H8 at s58 ⊢
  refine ⟨_, rfl, _, rfl, (by show 1 ≤ sizeLine; decide), fun A1 na1 => ?_⟩
  have sA := upd_new (o := .lst [.int N]) na1
  have oA : Odd (upd H8 A1 (.lst [.int N])) (.ref A1) "list" := .lst upd_same
  generalize upd H8 A1 (.lst [.int N]) = H9 at sA oA ⊢
  refine ⟨_, rfl, (by show 1 ≤ sizeLine; decide), fun A2 na2 => ?_⟩
  have sB := upd_new (o := .tup [.int N]) na2
  have oB : Odd (upd H9 A2 (.tup [.int N])) (.ref A2) "tuple" := .tup upd_same
  generalize upd H9 A2 (.tup [.int N]) = H10 at sB oB ⊢
  refine fun A3 na3 => ⟨_, rfl, upd_same, [(Sum.inr (Str.ofString "a"), .int N)], rfl, (by show 1 ≤ 15; decide), ?_⟩
  rw [upd_upd]
  have sC := upd_new (o := .dK (mergeK [] [(Sum.inr (Str.ofString "a"), .int N)])) na3
  have oC : Odd (upd H10 A3 (.dK (mergeK [] [(Sum.inr (Str.ofString "a"), .int N)]))) (.ref A3) "dict" := .dK upd_same
  generalize upd H10 A3 (.dK (mergeK [] [(Sum.inr (Str.ofString "a"), .int N)])) = H11 at sC oC ⊢
  refine mk_var (i := 4) rfl (smN.mono (by decide)) fun r H12 sD nr hr => ?_
  refine ⟨(by show 8 ≤ sizeLine; decide), fun L8 n8 => ?_⟩
  have sE := upd_new (o := .lst [.non, .bl true, .bl false, .str (S l), .ref A1, .ref A2, .ref A3, .ref r]) n8
  have hL : upd H12 L8 (.lst [.non, .bl true, .bl false, .str (S l), .ref A1, .ref A2, .ref A3, .ref r]) L8 = some (.lst [.non, .bl true, .bl false, .str (S l), .ref A1, .ref A2, .ref A3, .ref r]) := upd_same
  generalize upd H12 L8 (.lst [.non, .bl true, .bl false, .str (S l), .ref A1, .ref A2, .ref A3, .ref r]) = H13 at sE hL ⊢
  have no : ∀ v ∈ [V.non, .bl true, .bl false, .str (S l), .ref A1, .ref A2, .ref A3, .ref r], NotInt K H13 v := fun v z => by
    simp only [List.mem_cons, List.not_mem_nil, or_false] at z
    rcases z with rfl | rfl | rfl | rfl | rfl | rfl | rfl | rfl
    · exact Odd.non.not
    · exact .bl true
    · exact .bl false
    · exact (Odd.str (S l)).not
    · exact (oA.same (((sB.trans sC).trans sD).trans sE)).not
    · exact (oB.same ((sC.trans sD).trans sE)).not
    · exact (oC.same (sD.trans sE)).not
    · exact (hr.same sE).not R
  have sF : Same H5 H13 := ((((s58.trans sA).trans sB).trans sC).trans sD).trans sE
  have fin : Q (.bl true) H13 := q _ (t5'.same sF) (k05.trans (Same.keep sF))
  refine ⟨_, rfl, L8, rfl, ⟨_, SqL.of hL⟩, for_list (K := K) (a := L8) (xs := [.non, .bl true, .bl false, .str (S l), .ref A1, .ref A2, .ref A3, .ref r])
    (fun i σ H2 => H2 = H13 ∧ ∃ z, σ = [some (.ref p), some (.str (S l)), some (.int (u - 2)), some (.int (v - 2)), some (.int N), some (.ref L8), z, none, none]) ⟨rfl, none, rfl⟩ (fun i σ H2 _ z => by rw [z.1]; exact SqL.of hL) ?_ ?_⟩
  · rintro i y σ H2 hy ⟨rfl, z, rfl⟩
    obtain ⟨t, c, ty, k1, k2⟩ := no y (List.mem_of_getElem? hy)
    refine ⟨_, rfl, y, t, c, true, rfl, ty, k1, k2, ?_⟩
    rw [Bool.not_true, Bool.and_false]
    refine ⟨false, rfl, iteF ?_⟩
    refine ⟨_, rfl, y, none, none, rfl, .inl ⟨⟨t, c, ty, k1, k2⟩, false, rfl, iteF ?_⟩⟩
    refine ⟨_, rfl, _, _, rfl, rfl, ⟨by decide, by decide, by decide⟩, _, _, rfl, rfl, _, _, rfl, rfl, ⟨by decide, by decide, by decide⟩, ?_⟩
    refine ⟨y, some _, some _, rfl, .inl ⟨⟨t, c, ty, k1, k2⟩, false, rfl, iteF ?_⟩⟩
    exact ⟨rfl, _, rfl⟩
  · rintro σ H2 ⟨rfl, z, rfl⟩
    refine ⟨_, rfl, _, rfl, _, _, rfl, rfl, _, rfl, _, rfl, _, _, rfl, rfl, _, _, rfl, ?_⟩
    refine ⟨_, rfl, _, _, _, _, rfl, .int N, int1, int2, true, rfl, iteF ?_⟩
    refine ⟨_, rfl, _, none, none, rfl, .inr ⟨N, rfl, true, rfl, iteF ?_⟩⟩
    have d1 : ∀ a : Int, decide (V.bl (okLo (some a) N && okHi none N) = V.bl (decide (a ≤ N))) = true := fun a => decide_eq_true (by simp [okLo, okHi])
    have d2 : ∀ b : Int, decide (V.bl (okLo none N && okHi (some b) N) = V.bl (decide (N ≤ b))) = true := fun b => decide_eq_true (by simp [okLo, okHi])
    refine ⟨_, rfl, _, rfl, _, some _, none, rfl, .inr ⟨N, rfl, ?_⟩⟩
    refine ⟨_, rfl, _, rfl, _, _, rfl, rfl, rfl, _, rfl, ?_⟩
    rw [d1]
    refine iteF ⟨_, rfl, _, rfl, _, none, some _, rfl, .inr ⟨N, rfl, ?_⟩⟩
    refine ⟨_, rfl, _, rfl, _, _, rfl, rfl, rfl, _, rfl, ?_⟩
    rw [d2]
    refine iteF ⟨_, rfl, _, rfl, _, rfl, _, some _, some _, rfl, .inr ⟨N, rfl, ?_⟩⟩
    refine ⟨_, rfl, _, rfl, _, _, rfl, rfl, _, rfl, ite2 (fun h => ⟨_, rfl, _, _, rfl, rfl, rfl, ?_⟩) fun h => ⟨rfl, ?_⟩⟩
    · have h := of_decide_eq_true h
      rw [show decide (V.bl (okLo (some (N + (u - 2))) N && okHi (some (N + (v - 2))) N) = V.bl (decide (N ≤ N + (v - 2)))) = true from decide_eq_true (by simp only [okLo, okHi]; rw [decide_eq_true h, Bool.true_and])]
      exact fin
    · have h : ¬ (N + (u - 2) ≤ N) := fun z => h (decide_eq_true z)
      rw [show decide (V.bl (okLo (some (N + (u - 2))) N && okHi (some (N + (v - 2))) N) = V.bl false) = true from decide_eq_true (by simp only [okLo, okHi]; rw [decide_eq_false h, Bool.false_and])]
      exact fin
end
end K1

/-! _law_texts_right. -/
namespace K1
open PySem PySem.Spec PyProof.Rows L2 LamX SX

/-- an own operator of the class of ratios -/
structure Own (P : Program) (w : World) (K : PySem.W.Frag) (mg : Str → Option Value) (base : Heap) (C : Addr) (CX : CXT) (k : Nat) (nm : Str) (ps : List Str) (sp : Sp) : Prop where
  h : ∃ f fd, OwnM K C nm f ∧ Binds K fd ps [] ∧ FnOk P w K mg base CX k f fd ps sp
/-- a property -/
structure Prp (P : Program) (w : World) (K : PySem.W.Frag) (mg : Str → Option Value) (base : Heap) (C : Addr) (nm : Str) (sp : Sp) : Prop where
  h : ∃ p f fd, PropOf K C nm p f ∧ Binds K fd ["self"] [] ∧ FnOk P w K mg base CX0 1 f fd ["self"] sp
/-- Ratio.read -/
structure RdM (P : Program) (w : World) (K : PySem.W.Frag) (mg : Str → Option Value) (base : Heap) (C : Addr) : Prop where
  r : ClX.CRead K C (.type "type")
  h : ∃ p f, ClX.CMet K C (.type "type") "read" p f ∧ FnR P w K mg base (L2.CX P w) 6 f (spRead C)
/-- == with a value of these classes asks the ratio first -/
structure EqF (K : PySem.W.Frag) (C : Addr) : Prop where
  own : PySem.W.notFirst K C (.ref C) = true
  int : PySem.W.notFirst K C (.type "int") = true
  odd : ∀ T ∈ kinds6, PySem.W.notFirst K C (.type T) = true
def spTexts (C : Addr) : Sp := fun vs H Q _ => ∃ (a : Addr) (t b : Int), vs = [.ref a, .int t, .int b] ∧ b ≠ 0 ∧ t.natAbs < 10 ^ 26 ∧ b.natAbs < 10 ^ 26 ∧ RatAt C H a (rT t b) (rB t b) ∧ ∀ H', Same H H' → Q (.bl true) H'
section
variable {P : Program} {w : World} {K : PySem.W.Frag} {mg : Str → Option Value} {base : Heap} {f C CB : Addr} {fd : FuncData}
abbrev nTexts : List Str := ["_law_ratio", "_law_top", "_law_bottom", "_law_due_here", "_law_text_here", "_law_odd"]
theorem scTexts : FnScope nTexts ["_law_ratio", "_law_top", "_law_bottom"] (defScope sTexts) := ⟨rfl, rfl, rfl, by decide +kernel, rfl, by decide +kernel, by decide +kernel⟩
theorem ok_texts (G : Glob mg) (R : RatF K C) (gR : mg "Ratio" = some (.ref C)) (HD : HasDue P w K mg base) (HI : Has P w K mg base CX0 3 "_law_is" ["_law_ratio", "_law_top", "_law_bottom"] (spIs C))
    (OS : Own P w K mg base C CX0 1 "__str__" ["self"] (spStr C)) (OR : Own P w K mg base C CX0 4 "__repr__" ["self"] (spStr C)) (OE : Own P w K mg base C CX0 2 "__eq__" ["self", "other"] (spEq K C)) (EF : EqF K C)
    (OB : Own P w K mg base C CX0 1 "__bool__" ["self"] (spTell C fun t _ => .bl (t != 0))) (ON : Own P w K mg base C (L2.CX P w) 5 "__neg__" ["self"] (spUn C fun t => -t)) (OA : Own P w K mg base C (L2.CX P w) 5 "__abs__" ["self"] (spUn C fun t => (t.natAbs : Int)))
    (PS_ : Prp P w K mg base C "sign" (spTell C fun t _ => .int (sgn t))) (PW_ : Prp P w K mg base C "is_whole" (spTell C fun _ b => .bl (decide (b = 1)))) (RM : RdM P w K mg base C)
    (F : DefAt K "_law_texts_right" "_law_texts_right" sTexts f fd) : FnOk P w K mg base CX0 7 f fd ["_law_ratio", "_law_top", "_law_bottom"] (spTexts C) := by
  obtain ⟨fd_, fdd, mD, kD, bD, GD⟩ := HD.h
  obtain ⟨fi, fdi, mI, kI, bI, GI⟩ := HI.h
  obtain ⟨fs, fds, MS, bS, GS⟩ := OS.h
  obtain ⟨fr, fdr, MR, bR, GR⟩ := OR.h
  obtain ⟨fe, fde, ME, bE, GE⟩ := OE.h
  obtain ⟨fb, fdb, MB, bB, GB⟩ := OB.h
  obtain ⟨fn, fdn, MN, bN, GN⟩ := ON.h
  obtain ⟨fa, fda, MA, bA, GA⟩ := OA.h
  obtain ⟨pS, fS, fdS, PS1, bS1, GS1⟩ := PS_.h
  obtain ⟨pW, fW, fdW, PW1, bW1, GW1⟩ := PW_.h
  obtain ⟨pR, fR, CM, GRd⟩ := RM.h
  refine okN F scTexts (fun vs H Q E ⟨p, n, _, e, _⟩ => by rw [e]; rfl) (fun cdv A outer s H vs Q E hr ⟨a, t, b, e, hb, t26, b26, ha, q⟩ => ?_)
  subst e
  have h1 := hr.mono (show 1 ≤ 6 by decide)
  have h2 := hr.mono (show 2 ≤ 6 by decide)
  have h3 := hr.mono (show 3 ≤ 6 by decide)
  have h5 := hr.mono (show 5 ≤ 6 by decide)
  refine ⟨_, pss_cons (ps_set (i := 3) scTexts.nd rfl (Or.inl rfl) (pe_call GD h2 rfl mD kD bD .nil pass0 (pa_cons (pv 1) (pa_cons (pv 2) pa_nil))))
    (pss_cons (ps_set (i := 4) scTexts.nd rfl (Or.inl rfl) (pe_ifExp (pt_cmpR op_eq (pe_ix ix_tup (pv 3) pe_int (fun _ _ => rfl)) pe_int (nomark _))
      (pe_callTy call_str_int (by rfl) G.str (by decide +kernel) (pa_cons (pe_ix ix_tup (pv 3) pe_int (fun _ _ => rfl)) pa_nil))
      (pe_op op_add_str (pe_op op_add_str (pe_callTy call_str_int (by rfl) G.str (by decide +kernel) (pa_cons (pe_ix ix_tup (pv 3) pe_int (fun _ _ => rfl)) pa_nil)) pe_str)
        (pe_callTy call_str_int (by rfl) G.str (by decide +kernel) (pa_cons (pe_ix ix_tup (pv 3) pe_int (fun _ _ => rfl)) pa_nil)))))
    (pss_cons (ps_if (PW.pt (pw_or (pt_cmpR op_ne (pe_callTy (call_strO MS GS h3 bS pass0) (by rfl) G.str (by decide +kernel) (pa_cons (pv 0) pa_nil)) (pv 4) (nomark _))
      (pw_or (pt_cmpR op_ne (pe_callB (call_reprO MR GR h5 bR pass0) (by rfl) G.repr (by decide +kernel) (pa_cons (pv 0) pa_nil)) (pv 4) (nomark _))
      (pw_or (pt_not (pt_cmpR (op_eqO ME GE h2 bE pass0) (ClX.pe_cmeth (pe_glob (v := .ref C) rfl gR rfl) RM.r CM GRd hr passL (pa_cons (pv 4) pa_nil)) (pv 0) (nomark _)))
      (pw_or1 (pt_not (pt_val (pe_call GI h3 rfl mI kI bI .nil pass0 (pa_cons (ClX.pe_cmeth (pe_glob (v := .ref C) rfl gR rfl) RM.r CM GRd hr passL (pa_cons (pv 4) pa_nil)) (pa_cons (pv 1) (pa_cons (pv 2) pa_nil))))))))))) (pss_one (ps_ret pe_bl)) pss_nil)
    (pss_cons (ps_if (PW.pt (pw_or (pt_cmpR op_ne (pe_prop (pv 0) R.cl PS1 GS1 h2 bS1 .nil pass0 rfl) (pe_op op_sub (pe_callTy call_int1 (by rfl) G.int (by decide +kernel) (pa_cons (pe_cmpR op_gt (pe_ix ix_tup (pv 3) pe_int (fun _ _ => rfl)) pe_int (nomark _)) pa_nil))
        (pe_callTy call_int1 (by rfl) G.int (by decide +kernel) (pa_cons (pe_cmpR op_lt (pe_ix ix_tup (pv 3) pe_int (fun _ _ => rfl)) pe_int (nomark _)) pa_nil))) (nomark _))
      (pw_or (pt_cmpR op_ne (pe_prop (pv 0) R.cl PW1 GW1 h2 bW1 .nil pass0 rfl) (pe_cmpR op_eq (pe_ix ix_tup (pv 3) pe_int (fun _ _ => rfl)) pe_int (nomark _)) (nomark _))
      (pw_or1 (pt_cmpR op_ne (pe_callTy (call_boolO MB GB h3 bB pass0) (by rfl) G.bool (by decide +kernel) (pa_cons (pv 0) pa_nil)) (pe_cmpR op_ne (pe_ix ix_tup (pv 3) pe_int (fun _ _ => rfl)) pe_int (nomark _)) (nomark _)))))) (pss_one (ps_ret pe_bl)) pss_nil)
    (pss_cons (ps_if (PW.pt (pw_or (pt_cmpR op_ne (pe_cmpR (op_eqO ME GE h2 bE pass0) (pv 0) (pe_ix ix_tup (pv 3) pe_int (fun _ _ => rfl)) (nomark _)) (pe_cmpR op_eq (pe_ix ix_tup (pv 3) pe_int (fun _ _ => rfl)) pe_int (nomark _)) (nomark _))
      (pw_or1 (pt_cmpR (op_neD hr.units)
        (pe_lc (own := [("_law_odd", 5)]) (g := gName 5) rfl scTexts.nd (pi_list (pe_lst (pa_cons (pv 4) (pa_cons pe_non (pa_cons (pe_lst (pa_cons (pe_ix ix_tup (pv 3) pe_int (fun _ _ => rfl)) pa_nil)) (pa_cons (pe_cmpR op_eq (pe_ix ix_tup (pv 3) pe_int (fun _ _ => rfl)) pe_int (nomark _)) pa_nil)))))) (blkOk_by (N := nTexts) (sc := defScope sTexts) (by decide +kernel))
          (fun _ _ _ _ _ => pg_name (i := 5) scTexts.nd rfl (Or.inl rfl)) (fun _ _ _ _ _ => pts_one (pt_cmpR (r := rEqO K C (spEq K C) E0) (op_eqO ME GE h2 bE pass0) (pv 0) (pv 5) (nomark _))) (fun _ _ _ _ _ => pv 5))
        (pe_lst pa_nil) (nomark _))))) (pss_one (ps_ret pe_bl)) pss_nil)
    (pss_one (ps_ret (pe_and (pe_call GI h3 rfl mI kI bI .nil pass0 (pa_cons (pe_un (un_own MN GN h5 bN passL) (pv 0)) (pa_cons (pe_un un_neg (pv 1)) (pa_cons (pv 2) pa_nil))))
      (pe_one (pe_call GI h3 rfl mI kI bI .nil pass0 (pa_cons (pe_callB (call_absO MA GA hr bA passL) (by rfl) G.abs (by decide +kernel) (pa_cons (pv 0) pa_nil)) (pa_cons (pe_callB call_abs (by rfl) G.abs (by decide +kernel) (pa_cons (pv 1) pa_nil)) (pa_cons (pe_callB call_abs (by rfl) G.abs (by decide +kernel) (pa_cons (pv 2) pa_nil)) pa_nil))))))))))))
    , ?_⟩
  have st : Sm 100 t := Nat.lt_trans t26 (by decide +kernel)
  have sb : Sm 100 b := Nat.lt_trans b26 (by decide +kernel)
  have lo : Low (rT t b) (rB t b) := ⟨Nat.lt_of_le_of_lt (rT_le hb) (Nat.lt_trans t26 (by decide +kernel)), Nat.lt_of_le_of_lt (rB_le hb) (Nat.lt_trans b26 (by decide +kernel)), rB_pos hb, red_cop hb⟩
  have sx0 : Sm 100 (rT t b) := st.rT hb
  have sy0 : Sm 100 (rB t b) := sb.rB hb
  refine ⟨_, rfl, _, rfl, t, b, rfl, hb, st.mono (by decide), sb.mono (by decide), fun T H1 s1 nT hT => ?_⟩
  have ha1 := ha.same s1
  have isr : ∀ {u v : Int} {c : Addr} {HH : Hp} {Q' : VK}, v ≠ 0 → Sm 8000 u → Sm 8000 v → RatAt C HH c (rT u v) (rB u v) → (∀ H', Same HH H' → Q' (.bl true) H') → spIs C [.ref c, .int u, .int v] HH Q' E0 := fun a1 a2 a3 a4 a5 => ⟨_, _, _, rfl, a1, a2, a3, a4, a5⟩
  obtain ⟨x, y, ex, ey⟩ : ∃ x y, rT t b = x ∧ rB t b = y := ⟨_, _, rfl, rfl⟩
  rw [ex, ey] at ha1 hT lo
  rw [ex] at sx0
  rw [ey] at sy0
  have sx : Sm 1900 x := sx0.mono (by decide)
  have sy : Sm 1900 y := sy0.mono (by decide)
  have lx : x.natAbs.log2 < 1920 := Nat.lt_trans (sx.log (by decide)) (by decide)
  have ly : y.natAbs.log2 < 1920 := Nat.lt_trans (sy.log (by decide)) (by decide)
  have at0 : atI [V.int x, V.int y] 0 = some (V.int x) := atI_nat (j := 0) rfl
  have at1 : atI [V.int x, V.int y] 1 = some (V.int y) := atI_nat (j := 1) rfl
  refine ⟨_, rfl, T, _, _, _, rfl, rfl, SqT.of hT, at1, rfl, _, rfl, ?_⟩
  rw [decI]
  by_cases hy : y = 1
  case' pos =>
    rw [decide_eq_true hy]
    refine iteT ⟨_, rfl, T, _, _, _, rfl, rfl, SqT.of hT, at0, _, rfl, lx, ?_⟩
    have e : Str.ofString (toString x) = S (ratL x y) := by unfold ratL; rw [if_pos hy]; exact int_txt x
    rw [e]
  case' neg =>
    rw [decide_eq_false hy]
    refine iteF ⟨_, rfl, T, _, _, _, rfl, rfl, SqT.of hT, at0, _, rfl, lx, _, _, rfl, rfl, ?_, _, rfl, T, _, _, _, rfl, rfl, SqT.of hT, at1, _, rfl, ly, _, _, rfl, rfl, ?_, ?_⟩
    · rw [int_txt, str_slash, S_len, S_len]
      have := (intL_len (by decide) lo.t60).2.1
      have : (1000 : Nat) ≤ sizeLine := by decide +kernel
      simp
      omega
    · rw [int_txt, int_txt, str_slash, S_cat, S_len, S_len, List.length_append]
      have := (intL_len (by decide) lo.t60).2.1
      have := (intL_len (by decide) lo.b60).2.1
      have : (1000 : Nat) ≤ sizeLine := by decide +kernel
      simp
      omega
    have e : (Str.ofString (toString x) ++ Str.ofString "/") ++ Str.ofString (toString y) = S (ratL x y) := by
      unfold ratL
      rw [if_neg hy, int_txt, int_txt, str_slash, S_cat, S_cat, List.append_assoc]
      rfl
    rw [e]
  all_goals
    obtain ⟨dx, hd⟩ := id ha1
    have tr : decide (V.str (ratText x y) = V.str (S (ratL x y))) = true := decide_eq_true (by rw [ratText_S])
    refine ⟨_, rfl, a, dx, _, rfl, hd, a, x, y, rfl, ha1, sx, sy, _, rfl, _, rfl, rfl, _, rfl, ?_⟩
    rw [tr]
    refine iteF ⟨_, rfl, a, dx, _, rfl, hd, a, x, y, rfl, ha1, sx, sy, _, rfl, _, rfl, rfl, _, rfl, ?_⟩
    rw [tr]
    refine iteF ⟨rfl, _, rfl, _, x, y, rfl, lo, fun p H2 s2 n2 hp => ?_⟩
    obtain ⟨dp, hdp⟩ := id hp
    refine ⟨_, rfl, p, dp, _, _, rfl, hdp, ha1.same s2 |>.ty R, EF.own, p, _, x, y, rfl, hp, .inl ⟨a, x, y, rfl, ha1.same s2, _, rfl, ?_⟩⟩
    rw [decide_eq_true rfl, decide_eq_true rfl]
    refine iteF ⟨rfl, _, rfl, _, x, y, rfl, lo, fun p2 H3 s3 n3 hp2 => ?_⟩
    refine ⟨_, rfl, _, rfl, p2, t, b, rfl, hb, st.mono (by decide), sb.mono (by decide), (by rw [ex, ey]; exact hp2), fun H4 s4 => ⟨true, rfl, iteF ?_⟩⟩
    have s14 : Same H1 H4 := (s2.trans s3).trans s4
    have ha4 := ha1.same s14
    have hd4 := s14 _ _ hd
    have hT4 := s14 _ _ hT
    refine ⟨_, rfl, a, dx, _, rfl, hd4, a, x, y, rfl, ha4, ?_⟩
    refine ⟨_, rfl, T, _, _, _, rfl, rfl, SqT.of hT4, at0, _, _, rfl, rfl, .inr ⟨_, rfl, ?_⟩⟩
    refine ⟨_, rfl, T, _, _, _, rfl, rfl, SqT.of hT4, at0, _, _, rfl, rfl, .inr ⟨_, rfl, _, _, rfl, rfl, rfl, _, rfl, ?_⟩⟩
    have es : decide (V.int (sgn x) = V.int ((if decide (x > 0) = true then 1 else 0) - (if decide (x < 0) = true then 1 else 0))) = true := decide_eq_true (congrArg V.int (by
      unfold sgn
      by_cases z0 : x = 0
      · subst z0; rfl
      · by_cases z1 : x > 0
        · rw [if_neg z0, if_pos z1, decide_eq_true z1, decide_eq_false (show ¬ x < 0 by omega)]; rfl
        · rw [if_neg z0, if_neg z1, decide_eq_false z1, decide_eq_true (show x < 0 by omega)]; rfl))
    have es' := es
    refine Eq.mpr (congrArg (fun z : Bool => if (!z) = true then _ else _) es) ?_
    refine iteF ⟨_, rfl, a, dx, _, rfl, hd4, a, x, y, rfl, ha4, ?_⟩
    refine ⟨_, rfl, T, _, _, _, rfl, rfl, SqT.of hT4, at1, rfl, rfl, _, rfl, ?_⟩
    rw [decI, decide_eq_true rfl]
    refine iteF ⟨_, rfl, a, dx, _, rfl, hd4, a, x, y, rfl, ha4, _, rfl, ?_⟩
    refine ⟨_, rfl, T, _, _, _, rfl, rfl, SqT.of hT4, at0, rfl, rfl, _, rfl, ?_⟩
    have eb : (x != 0) = !decide (V.int x = V.int 0) := by rw [decI]; rfl
    rw [← eb, decide_eq_true rfl]
    refine iteF ?_
    refine ⟨_, rfl, _, rfl, T, _, _, _, rfl, rfl, SqT.of hT4, at0, a, dx, _, _, rfl, hd4, .int x, EF.int, a, .int x, x, y, rfl, ha4, .inr (.inl ⟨x, rfl, ?_⟩)⟩
    refine ⟨_, rfl, T, _, _, _, rfl, rfl, SqT.of hT4, at1, rfl, rfl, _, rfl, ?_⟩
    have e5 : decide (V.bl (decide (y = 1) && decide (x = x)) = V.bl (decide (V.int y = V.int 1))) = true := decide_eq_true (by rw [decI, decide_eq_true (rfl : x = x), Bool.and_true])
    rw [e5]
    refine iteF ⟨_, rfl, _, rfl, T, _, _, _, rfl, rfl, SqT.of hT4, at0, (by show 1 ≤ sizeLine; decide), fun A1 na1 => ?_⟩
    have sA := upd_new (o := .lst [.int x]) na1
    have oA : Odd (upd H4 A1 (.lst [.int x])) (.ref A1) "list" := .lst upd_same
    generalize upd H4 A1 (.lst [V.int x]) = H5 at sA oA ⊢
    refine ⟨_, rfl, T, _, _, _, rfl, rfl, SqT.of (sA _ _ hT4), at0, rfl, (by show 4 ≤ sizeLine; decide), fun A2 na2 => ?_⟩
    have sB := upd_new (o := .lst [.str (S (ratL x y)), .non, .ref A1, .bl (decide (V.int x = V.int 1))]) na2
    have hB : upd H5 A2 (.lst [.str (S (ratL x y)), .non, .ref A1, .bl (decide (V.int x = V.int 1))]) A2 = some (.lst [.str (S (ratL x y)), .non, .ref A1, .bl (decide (V.int x = V.int 1))]) := upd_same
    generalize upd H5 A2 (.lst [V.str (S (ratL x y)), .non, .ref A1, .bl (decide (V.int x = V.int 1))]) = H6 at sB hB ⊢
    have odd : ∀ v ∈ [V.str (S (ratL x y)), .non, .ref A1, .bl (decide (V.int x = V.int 1))], ∃ T, Odd H6 v T := fun v z => by
      simp only [List.mem_cons, List.not_mem_nil, or_false] at z
      rcases z with rfl | rfl | rfl | rfl
      · exact ⟨_, .str _⟩
      · exact ⟨_, .non⟩
      · exact ⟨_, oA.same sB⟩
      · exact ⟨_, .bl _⟩
    have s46 : Same H4 H6 := sA.trans sB
    refine ⟨A2, rfl, ⟨_, SqL.of hB⟩, fun D hD => ?_⟩
    refine lc_list (K := K) (a := A2) (xs := [V.str (S (ratL x y)), .non, .ref A1, .bl (decide (V.int x = V.int 1))]) (fun i H7 => Same H6 H7 ∧ H7 D = some (.lst [])) ⟨upd_new hD, upd_same⟩ (fun i H7 _ z => SqL.of (z.1 _ _ hB)) ?_ ?_
    · rintro i v H7 hv ⟨s7, h7⟩
      obtain ⟨ty, ho⟩ := odd v (List.mem_of_getElem? hv)
      have ho7 := ho.same s7
      refine ⟨rfl, _, rfl, _, rfl, a, dx, _, _, rfl, s7 _ _ (s46 _ _ hd4), ho7.ty, EF.odd _ ho.mem, a, v, x, y, rfl, (ha4.same s46).same s7, .inr (.inr ⟨ty, ho7, false, rfl, iteF ⟨s7, h7⟩⟩)⟩
    · rintro H7 ⟨s7, h7⟩
      refine ⟨(by show 0 ≤ sizeLine; decide), fun L nL => ?_⟩
      have s8 := upd_new (o := .lst []) nL
      refine ⟨.list [], .list [], .lst (SqL.of (s8 _ _ h7)) .nil, .lst (SqL.of upd_same) .nil, (flat_shaped (ds := []) fun _ z => nomatch z).1, (flat_shaped (ds := []) fun _ z => nomatch z).1, _, rfl, ?_⟩
      rw [eqv_nil]
      refine iteF ?_
      have s48 := (s46.trans s7).trans s8
      generalize upd H7 L (.lst []) = H8 at s48 ⊢
      have ha8 := ha4.same s48
      have s18 := s14.trans s48
      have by0 : y ≠ 0 := by have := lo.pos; omega
      have qf : ∀ H', Same H8 H' → Q (.bl true) H' := fun H' s => q H' ((s1.trans s18).trans s)
      refine ⟨_, rfl, a, dx, _, rfl, s48 _ _ hd4, a, x, y, rfl, ha8, by0, sx.mono (by decide), sy.mono (by decide), fun r1 H9 s9 n9 hr1 => ?_⟩
      have nr := neg_red (a0 := t) (a1 := b) hb
      rw [ex, ey] at nr
      rw [nr.1, nr.2] at hr1
      refine ⟨_, rfl, _, rfl, _, rfl, r1, -t, b, rfl, hb, st.neg.mono (by decide), sb.mono (by decide), hr1, fun H10 s10 => ⟨true, rfl, iteT ?_⟩⟩
      have s810 := s9.trans s10
      refine ⟨_, rfl, a, dx, _, rfl, s810 _ _ (s48 _ _ hd4), a, x, y, rfl, ha8.same s810, by0, sx.mono (by decide), sy.mono (by decide), fun r2 H11 s11 n11 hr2 => ?_⟩
      have ar := abs_red (a0 := t) (a1 := b) hb
      rw [ex, ey] at ar
      rw [ar.1, ar.2] at hr2
      refine ⟨_, rfl, _, rfl, _, rfl, _, rfl, r2, _, _, rfl, ?_, ?_, ?_, ?_, fun H12 s12 => qf _ ((s810.trans s11).trans s12)⟩
      · rw [abs_if]; omega
      · rw [abs_if]; unfold Sm; rw [Int.natAbs_natCast]; exact st.mono (by decide)
      · rw [abs_if]; unfold Sm; rw [Int.natAbs_natCast]; exact sb.mono (by decide)
      · rw [abs_if, abs_if]; exact hr2
end
end K1

namespace K1
def rP (t b : Int) : Int × Int := (rT t b, rB t b)
section
variable {a0 a1 b0 b1 : Int} (ha : a1 ≠ 0) (hb : b1 ≠ 0)
include ha hb
theorem rP_eq (h : (a0 * b1 - b0 * a1) * (a1 * b1) = 0) : rP a0 a1 = rP b0 b1 := by
  have m : a1 * b1 ≠ 0 := Int.mul_ne_zero ha hb
  have z : a0 * b1 - b0 * a1 = 0 := (Int.mul_eq_zero.mp h).resolve_right m
  have e := red_eq ha hb (show a0 * b1 = b0 * a1 by omega)
  unfold rP
  rw [e.1, e.2]
theorem max2 : maxR [rP a0 a1, rP b0 b1] = if (a0 * b1 - b0 * a1) * (a1 * b1) ≤ 0 then rP b0 b1 else rP a0 a1 := by
  show maxP (maxP (rP a0 a1) (rP a0 a1)) (rP b0 b1) = _
  have e1 : maxP (rP a0 a1) (rP a0 a1) = rP a0 a1 := by unfold maxP; split <;> rfl
  rw [e1]
  unfold maxP
  have c := cmp_lt (a0 := a0) (b0 := b0) ha hb
  have d := rP_eq (a0 := a0) (b0 := b0) ha hb
  by_cases h : (a0 * b1 - b0 * a1) * (a1 * b1) < 0
  · rw [if_pos (show (rP a0 a1).1 * (rP b0 b1).2 < (rP b0 b1).1 * (rP a0 a1).2 from c.mpr h), if_pos (by omega)]
  · rw [if_neg (show ¬ (rP a0 a1).1 * (rP b0 b1).2 < (rP b0 b1).1 * (rP a0 a1).2 from fun z => h (c.mp z))]
    by_cases h0 : (a0 * b1 - b0 * a1) * (a1 * b1) = 0
    · rw [if_pos (by omega)]; exact d h0
    · rw [if_neg (by omega)]
omit hb in
theorem negP_rP : negP (rP a0 a1) = rP (-a0) a1 := by
  have e := neg_red (a0 := a0) ha
  unfold negP rP
  exact Prod.ext e.1 e.2
theorem min2 : minR [rP a0 a1, rP b0 b1] = if (a0 * b1 - b0 * a1) * (a1 * b1) ≤ 0 then rP a0 a1 else rP b0 b1 := by
  unfold minR
  show negP (maxR [negP (rP a0 a1), negP (rP b0 b1)]) = _
  rw [negP_rP ha, negP_rP hb, max2 ha hb]
  have e : (-a0 * b1 - -b0 * a1) * (a1 * b1) = -((a0 * b1 - b0 * a1) * (a1 * b1)) := by
    have e0 : -a0 * b1 - -b0 * a1 = -(a0 * b1 - b0 * a1) := by rw [Int.neg_mul, Int.neg_mul]; omega
    rw [e0, Int.neg_mul]
  rw [e]
  have d := rP_eq (a0 := a0) (b0 := b0) ha hb
  by_cases h : (a0 * b1 - b0 * a1) * (a1 * b1) ≤ 0
  · rw [if_pos h]
    by_cases h0 : (a0 * b1 - b0 * a1) * (a1 * b1) = 0
    · rw [if_pos (by omega), negP_rP hb, Int.neg_neg, d h0]
    · rw [if_neg (by omega), negP_rP ha, Int.neg_neg]
  · rw [if_neg h, if_pos (by omega), negP_rP hb, Int.neg_neg]
theorem addP_rP : addP (rP a0 a1) (rP b0 b1) = rP (a0 * b1 + b0 * a1) (a1 * b1) := by
  have e := sum_red (a0 := a0) (b0 := b0) ha hb
  exact Prod.ext e.1 e.2
theorem sum3 : sumR [rP a0 a1, rP b0 b1, rP a0 a1] = rP (2 * a0 * b1 + b0 * a1) (a1 * b1) := by
  show addP (addP (addP (0, 1) (rP a0 a1)) (rP b0 b1)) (rP a0 a1) = _
  have z : ((0, 1) : Int × Int) = rP 0 1 := by
    have e := red_one 0
    unfold rP
    rw [e.1, e.2]
  rw [z, addP_rP (by decide) ha]
  have m1 : (1 : Int) * a1 ≠ 0 := by omega
  rw [addP_rP m1 hb]
  have m2 : 1 * a1 * b1 ≠ 0 := Int.mul_ne_zero m1 hb
  rw [addP_rP m2 ha]
  have e := red_eq (Int.mul_ne_zero m2 ha) (Int.mul_ne_zero ha hb) (show (((0 * a1 + a0 * 1) * b1 + b0 * (1 * a1)) * a1 + a0 * (1 * a1 * b1)) * (a1 * b1) = (2 * a0 * b1 + b0 * a1) * (1 * a1 * b1 * a1) by
    have e1 : 0 * a1 + a0 * 1 = a0 := by omega
    rw [e1, Int.one_mul]
    have e2 : (a0 * b1 + b0 * a1) * a1 + a0 * (a1 * b1) = (2 * a0 * b1 + b0 * a1) * a1 := by
      have e3 : a0 * (a1 * b1) = a0 * b1 * a1 := by rw [Int.mul_comm a1 b1, Int.mul_assoc]
      have e4 : 2 * a0 * b1 = a0 * b1 + a0 * b1 := by rw [Int.mul_assoc]; omega
      rw [e3, e4, ← Int.add_mul]
      congr 1
      omega
    rw [e2, Int.mul_assoc, Int.mul_comm a1 (a1 * b1)])
  exact Prod.ext e.1 e.2
end
end K1

/-! _law_sums_right. -/
namespace K1
open PySem PySem.Spec PyProof.Rows L2 LamX SX

/-- a method with one argument -/
structure Mth (P : Program) (w : World) (K : PySem.W.Frag) (mg : Str → Option Value) (base : Heap) (C : Addr) (k : Nat) (m : Str) (sp : Sp) : Prop where
  h : ∃ g fd, Meth K C m g ∧ Binds K fd ["self", "other"] [] ∧ FnOk P w K mg base (L2.CX P w) k g fd ["self", "other"] sp
abbrev spAddR (C CB : Addr) : Sp := spBin C CB (fun t b t2 b2 => t * b2 + t2 * b) (fun _ b _ b2 => b * b2)
abbrev spSubR (C CB : Addr) : Sp := spBin C CB (fun t b t2 b2 => t * b2 - t2 * b) (fun _ b _ b2 => b * b2)
abbrev spMulR (C CB : Addr) : Sp := spBin C CB (fun t _ t2 _ => t * t2) (fun _ b _ b2 => b * b2)
def spSums (C : Addr) : Sp := fun vs H Q _ => ∃ (Ta Tb one : Addr) (v : V) (a0 a1 b0 b1 : Int), vs = [.ref Ta, .ref Tb, .ref one, v] ∧ H Ta = some (.tup [.int a0, .int a1]) ∧ H Tb = some (.tup [.int b0, .int b1]) ∧
  a1 ≠ 0 ∧ b1 ≠ 0 ∧ Sm 90 a0 ∧ Sm 90 a1 ∧ Sm 90 b0 ∧ Sm 90 b1 ∧ RatAt C H one (rT a0 a1) (rB a0 a1) ∧ RatV C H v (rT b0 b1) (rB b0 b1) ∧ ∀ H', Same H H' → Q (.bl true) H'
section
variable {P : Program} {w : World} {K : PySem.W.Frag} {mg : Str → Option Value} {base : Heap} {f C CB : Addr} {fd : FuncData}
theorem rightO {op : Operator} {H : Hp} {v : V} {t b : Int} (o : OpT K C op "int") (h : RatV C H v t b) : RightO K C op v H := by
  rcases h with ⟨a, rfl, dx, h⟩ | ⟨rfl, _⟩
  · exact .inl ⟨a, dx, _, rfl, h⟩
  · obtain ⟨fo, ro, o1, o2, o3⟩ := o
    exact .inr ⟨"int", fo, ro, .int t, o1, o2, o3⟩
theorem cmp_is {m o ap : Int} (cz : m = o ↔ ap = 0) (cl : m < o ↔ ap < 0) : decide (V.int (cmpI m o) = V.int ((if decide (ap > 0) = true then 1 else 0) - (if decide (ap < 0) = true then 1 else 0))) = true := decide_eq_true (congrArg V.int (by
  unfold cmpI
  by_cases z0 : m = o
  · have h := cz.mp z0
    rw [if_pos z0, h]; rfl
  · have h : ap ≠ 0 := fun z => z0 (cz.mpr z)
    rw [if_neg z0]
    by_cases z1 : m < o
    · have h1 := cl.mp z1
      rw [if_pos z1, decide_eq_false (show ¬ ap > 0 by omega), decide_eq_true h1]; rfl
    · have h1 : ¬ ap < 0 := fun z => z1 (cl.mpr z)
      rw [if_neg z1, decide_eq_true (show ap > 0 by omega), decide_eq_false h1]; rfl))
theorem bel_is {m o ap : Int} (cl : m < o ↔ ap < 0) : decide (V.bl (decide (cmpI m o < 0)) = V.bl (decide (ap < 0))) = true := decide_eq_true (congrArg V.bl (by rw [cmp_neg]; exact decide_eq_decide.mpr cl))
theorem eq_any {K : PySem.W.Frag} {C one : Addr} {H : Hp} {v : V} {x y u z : Int} (R : RatF K C) (EF : EqF K C) (ho : RatAt C H one x y) (hv : RatV C H v u z) :
    ∃ t, TyOf K H v t ∧ PySem.W.notFirst K C t = true ∧ ∀ (Q : VK) (E : XK), Q (.bl (decide (x = u) && decide (y = z))) H → spEq K C [.ref one, v] H Q E := by
  rcases hv with ⟨a, rfl, h⟩ | ⟨rfl, rfl⟩
  · exact ⟨_, h.ty R, EF.own, fun Q E q => ⟨one, _, x, y, rfl, ho, .inl ⟨a, u, z, rfl, h, q⟩⟩⟩
  · exact ⟨_, .int u, EF.int, fun Q E q => ⟨one, _, x, y, rfl, ho, .inr (.inl ⟨u, rfl, by rw [Bool.and_comm]; exact q⟩)⟩⟩
abbrev nSums : List Str := ["_law_a", "_law_b", "_law_one", "_law_other", "_law_apart", "_law_least", "_law_greatest"]
abbrev pSums : List Str := ["_law_a", "_law_b", "_law_one", "_law_other"]
theorem scSums : FnScope nSums pSums (defScope sSums) := ⟨rfl, rfl, rfl, by decide +kernel, rfl, by decide +kernel, by decide +kernel⟩
theorem ok_sums (G : Glob mg) (R : RatF K C) (HI : Has P w K mg base CX0 3 "_law_is" ["_law_ratio", "_law_top", "_law_bottom"] (spIs C)) (OE : Own P w K mg base C CX0 2 "__eq__" ["self", "other"] (spEq K C)) (EF : EqF K C)
    (HA : HasOp P w K mg base C .Add (spAddR C CB)) (HS : HasOp P w K mg base C .Sub (spSubR C CB)) (HM : HasOp P w K mg base C .Mult (spMulR C CB)) (tA : OpT K C .Add "int") (tS : OpT K C .Sub "int") (tM : OpT K C .Mult "int")
    (MO : Mth P w K mg base C 6 "over" (spOver C CB)) (MC : Mth P w K mg base C 6 "compared" (spCmp C CB V.int)) (MB : Mth P w K mg base C 7 "is_below" (spCmp C CB fun n => .bl (decide (n < 0))))
    (HL : Has P w K mg base (L2.CX P w) 9 "least_of" ["ratios"] (spBest K C CB minR)) (HG : Has P w K mg base (L2.CX P w) 8 "greatest_of" ["ratios"] (spBest K C CB maxR)) (HD : Has P w K mg base (L2.CX P w) 7 "added" ["ratios"] (spAdded K C CB))
    (F : DefAt K "_law_sums_right" "_law_sums_right" sSums f fd) : FnOk P w K mg base CX0 10 f fd pSums (spSums C) := by
  obtain ⟨fi, fdi, mI, kI, bI, GI⟩ := HI.h
  obtain ⟨fe, fde, ME, bE, GE⟩ := OE.h
  obtain ⟨fa, fda, MA, bA, GA⟩ := HA.h
  obtain ⟨fs, fds, MS, bS, GS⟩ := HS.h
  obtain ⟨fm, fdm, MM, bM, GM⟩ := HM.h
  obtain ⟨fo, fdo, Mo, bO, GO⟩ := MO.h
  obtain ⟨fc, fdc, Mc, bC, GC⟩ := MC.h
  obtain ⟨fb, fdb, Mb, bB, GB⟩ := MB.h
  obtain ⟨fl, fdl, mL, kL, bL, GL⟩ := HL.h
  obtain ⟨fg, fdg, mG, kG, bG, GG⟩ := HG.h
  obtain ⟨fd_, fdd, mD, kD, bD, GD⟩ := HD.h
  refine okN F scSums (fun vs H Q E ⟨_, _, _, _, _, _, _, _, e, _⟩ => by rw [e]; rfl) (fun cdv A outer s H vs Q E hr ⟨Ta, Tb, one, v, a0, a1, b0, b1, e, ha, hb, na, nb, s0, s1, s2, s3, ho, hv, q⟩ => ?_)
  subst e
  have r2 := hr.mono (show 2 ≤ 9 by decide)
  have r3 := hr.mono (show 3 ≤ 9 by decide)
  have r6 := hr.mono (show 6 ≤ 9 by decide)
  have r7 := hr.mono (show 7 ≤ 9 by decide)
  have r8 := hr.mono (show 8 ≤ 9 by decide)
  refine ⟨_, pss_cons (ps_if (pt_not (pt_val (pe_call GI r3 rfl mI kI bI .nil pass0 (pa_cons (pe_op (op_own (op := .Add) MA HA.sf HA.nr GA r6 bA passL) (pv 2) (pv 3))
        (pa_cons (pe_op op_add (pe_op op_mulW (pe_ix ix_tup (pv 0) pe_int (fun _ _ => rfl)) (pe_ix ix_tup (pv 1) pe_int (fun _ _ => rfl))) (pe_op op_mulW (pe_ix ix_tup (pv 1) pe_int (fun _ _ => rfl)) (pe_ix ix_tup (pv 0) pe_int (fun _ _ => rfl))))
        (pa_cons (pe_op op_mulW (pe_ix ix_tup (pv 0) pe_int (fun _ _ => rfl)) (pe_ix ix_tup (pv 1) pe_int (fun _ _ => rfl))) pa_nil)))))) (pss_one (ps_ret pe_bl)) pss_nil)
    (pss_cons (ps_if (PW.pt (pw_or (pt_not (pt_val (pe_call GI r3 rfl mI kI bI .nil pass0 (pa_cons (pe_op (op_own (op := .Sub) MS HS.sf HS.nr GS r6 bS passL) (pv 2) (pv 3))
        (pa_cons (pe_op op_sub (pe_op op_mulW (pe_ix ix_tup (pv 0) pe_int (fun _ _ => rfl)) (pe_ix ix_tup (pv 1) pe_int (fun _ _ => rfl))) (pe_op op_mulW (pe_ix ix_tup (pv 1) pe_int (fun _ _ => rfl)) (pe_ix ix_tup (pv 0) pe_int (fun _ _ => rfl))))
        (pa_cons (pe_op op_mulW (pe_ix ix_tup (pv 0) pe_int (fun _ _ => rfl)) (pe_ix ix_tup (pv 1) pe_int (fun _ _ => rfl))) pa_nil))))))
      (pw_or1 (pt_not (pt_val (pe_call GI r3 rfl mI kI bI .nil pass0 (pa_cons (pe_op (op_own (op := .Mult) MM HM.sf HM.nr GM r6 bM passL) (pv 2) (pv 3))
        (pa_cons (pe_op op_mulW (pe_ix ix_tup (pv 0) pe_int (fun _ _ => rfl)) (pe_ix ix_tup (pv 1) pe_int (fun _ _ => rfl)))
        (pa_cons (pe_op op_mulW (pe_ix ix_tup (pv 0) pe_int (fun _ _ => rfl)) (pe_ix ix_tup (pv 1) pe_int (fun _ _ => rfl))) pa_nil))))))))) (pss_one (ps_ret pe_bl)) pss_nil)
    (pss_cons (ps_if (PW.pt (pw_and (pt_cmpR op_ne (pe_ix ix_tup (pv 1) pe_int (fun _ _ => rfl)) pe_int (nomark _))
      (pw_and1 (pt_not (pt_val (pe_call GI r3 rfl mI kI bI .nil pass0 (pa_cons (pe_meth (pv 2) R.cl Mo GO r6 bO .nil passL (pa_cons (pv 3) pa_nil))
        (pa_cons (pe_op op_mulW (pe_ix ix_tup (pv 0) pe_int (fun _ _ => rfl)) (pe_ix ix_tup (pv 1) pe_int (fun _ _ => rfl)))
        (pa_cons (pe_op op_mulW (pe_ix ix_tup (pv 0) pe_int (fun _ _ => rfl)) (pe_ix ix_tup (pv 1) pe_int (fun _ _ => rfl))) pa_nil))))))))) (pss_one (ps_ret pe_bl)) pss_nil)
    (pss_cons (ps_set (i := 4) scSums.nd rfl (Or.inl rfl) (pe_op op_mulW (pe_op op_sub (pe_op op_mulW (pe_ix ix_tup (pv 0) pe_int (fun _ _ => rfl)) (pe_ix ix_tup (pv 1) pe_int (fun _ _ => rfl))) (pe_op op_mulW (pe_ix ix_tup (pv 1) pe_int (fun _ _ => rfl)) (pe_ix ix_tup (pv 0) pe_int (fun _ _ => rfl))))
      (pe_op op_mulW (pe_ix ix_tup (pv 0) pe_int (fun _ _ => rfl)) (pe_ix ix_tup (pv 1) pe_int (fun _ _ => rfl)))))
    (pss_cons (ps_if (PW.pt (pw_or (pt_cmpR op_ne (pe_meth (pv 2) R.cl Mc GC r6 bC .nil passL (pa_cons (pv 3) pa_nil)) (pe_op op_sub (pe_callTy call_int1 (by rfl) G.int (by decide +kernel) (pa_cons (pe_cmpR op_gt (pv 4) pe_int (nomark _)) pa_nil))
        (pe_callTy call_int1 (by rfl) G.int (by decide +kernel) (pa_cons (pe_cmpR op_lt (pv 4) pe_int (nomark _)) pa_nil))) (nomark _))
      (pw_or1 (pt_cmpR op_ne (pe_meth (pv 2) R.cl Mb GB r7 bB .nil passL (pa_cons (pv 3) pa_nil)) (pe_cmpR op_lt (pv 4) pe_int (nomark _)) (nomark _))))) (pss_one (ps_ret pe_bl)) pss_nil)
    (pss_cons (ps_if (pt_cmpR op_ne (pe_cmpR (op_eqO ME GE r2 bE pass0) (pv 2) (pv 3) (nomark _)) (pe_cmpR op_eq (pv 4) pe_int (nomark _)) (nomark _)) (pss_one (ps_ret pe_bl)) pss_nil)
    (pss_cons (ps_asg (pe_ifExp (pt_cmpR op_le (pv 4) pe_int (nomark _)) (pe_tup (pa_cons (pv 0) (pa_cons (pv 1) pa_nil))) (pe_tup (pa_cons (pv 1) (pa_cons (pv 0) pa_nil)))) (pg_tup (by rfl) (pgs_cons (pg_name (i := 5) scSums.nd rfl (Or.inl rfl)) (pgs_cons (pg_name (i := 6) scSums.nd rfl (Or.inl rfl)) pgs_nil))))
    (pss_cons (ps_if (pt_not (pt_val (pe_call GI r3 rfl mI kI bI .nil pass0 (pa_cons (pe_call GL hr rfl mL kL bL .nil passL (pa_cons (pe_lst (pa_cons (pv 2) (pa_cons (pv 3) pa_nil))) pa_nil)) (pa_cons (pe_ix ix_tup (pv 5) pe_int (fun _ _ => rfl)) (pa_cons (pe_ix ix_tup (pv 5) pe_int (fun _ _ => rfl)) pa_nil)))))) (pss_one (ps_ret pe_bl)) pss_nil)
    (pss_cons (ps_if (pt_not (pt_val (pe_call GI r3 rfl mI kI bI .nil pass0 (pa_cons (pe_call GG r8 rfl mG kG bG .nil passL (pa_cons (pe_tup (pa_cons (pv 2) (pa_cons (pv 3) pa_nil))) pa_nil)) (pa_cons (pe_ix ix_tup (pv 6) pe_int (fun _ _ => rfl)) (pa_cons (pe_ix ix_tup (pv 6) pe_int (fun _ _ => rfl)) pa_nil)))))) (pss_one (ps_ret pe_bl)) pss_nil)
    (pss_one (ps_ret (pe_call GI r3 rfl mI kI bI .nil pass0 (pa_cons (pe_call GD r7 rfl mD kD bD .nil passL (pa_cons (pe_lst (pa_cons (pv 2) (pa_cons (pv 3) (pa_cons (pv 2) pa_nil)))) pa_nil))
      (pa_cons (pe_op op_add (pe_op op_mulW (pe_op op_mulW pe_int (pe_ix ix_tup (pv 0) pe_int (fun _ _ => rfl))) (pe_ix ix_tup (pv 1) pe_int (fun _ _ => rfl))) (pe_op op_mulW (pe_ix ix_tup (pv 1) pe_int (fun _ _ => rfl)) (pe_ix ix_tup (pv 0) pe_int (fun _ _ => rfl))))
      (pa_cons (pe_op op_mulW (pe_ix ix_tup (pv 0) pe_int (fun _ _ => rfl)) (pe_ix ix_tup (pv 1) pe_int (fun _ _ => rfl))) pa_nil)))))))))))))), ?_⟩
  have at0 : atI [V.int a0, V.int a1] 0 = some (V.int a0) := atI_nat (j := 0) rfl
  have at1 : atI [V.int a0, V.int a1] 1 = some (V.int a1) := atI_nat (j := 1) rfl
  have bt0 : atI [V.int b0, V.int b1] 0 = some (V.int b0) := atI_nat (j := 0) rfl
  have bt1 : atI [V.int b0, V.int b1] 1 = some (V.int b1) := atI_nat (j := 1) rfl
  have m01 : CMulW a0 b1 := s0.mulW s3
  have m10 : CMulW b0 a1 := s2.mulW s1
  have m11 : CMulW a1 b1 := s1.mulW s3
  have m00 : CMulW a0 b0 := s0.mulW s2
  have w01 : Sm 180 (a0 * b1) := s0.mul s3
  have w10 : Sm 180 (b0 * a1) := s2.mul s1
  have w11 : Sm 180 (a1 * b1) := s1.mul s3
  have w00 : Sm 180 (a0 * b0) := s0.mul s2
  have wM : Sm 8000 (a1 * b1) := w11.mono (by decide)
  have nM : a1 * b1 ≠ 0 := Int.mul_ne_zero na nb
  have sx : Sm 90 (rT a0 a1) := s0.rT na
  have sy : Sm 90 (rB a0 a1) := s1.rB na
  have su : Sm 90 (rT b0 b1) := s2.rT nb
  have sv : Sm 90 (rB b0 b1) := s3.rB nb
  have py := rB_pos (t := a0) na
  have pv_ := rB_pos (t := b0) nb
  have ny : rB a0 a1 ≠ 0 := by omega
  have nv : rB b0 b1 ≠ 0 := by omega
  have ax := sx.mono (show 90 ≤ 3000 by decide)
  have ay := sy.mono (show 90 ≤ 3000 by decide)
  have au := su.mono (show 90 ≤ 3000 by decide)
  have av := sv.mono (show 90 ≤ 3000 by decide)
  have wAp : CMulW (a0 * b1 - b0 * a1) (a1 * b1) := (Sm.sub w01 w10).mulW w11
  obtain ⟨dx, hd⟩ := id ho
  refine ⟨_, rfl, _, rfl, one, dx, _, rfl, hd, rightO tA hv, one, v, _, _, rfl, ho, ny, .inl ⟨_, _, hv, nv, ax, ay, au, av, fun p1 H1 z1 n1 hp1 => ?_⟩⟩
  have e1a := z1 _ _ ha
  have e1b := z1 _ _ hb
  refine ⟨_, rfl, Ta, _, _, _, rfl, rfl, SqT.of e1a, at0, _, rfl, Tb, _, _, _, rfl, rfl, SqT.of e1b, bt1, _, _, rfl, rfl, m01, _, rfl, Tb, _, _, _, rfl, rfl, SqT.of e1b, bt0, _, rfl, Ta, _, _, _, rfl, rfl, SqT.of e1a, at1, _, _, rfl, rfl, m10, _, _, rfl, rfl, _, rfl, Ta, _, _, _, rfl, rfl, SqT.of e1a, at1, _, rfl, Tb, _, _, _, rfl, rfl, SqT.of e1b, bt1, _, _, rfl, rfl, m11, p1, _, _, rfl, nM, (Sm.add w01 w10).mono (by decide), wM, (by rw [(sum_red (a0 := a0) (b0 := b0) na nb).1, (sum_red (a0 := a0) (b0 := b0) na nb).2] at hp1; exact hp1), fun H2 z2 => ⟨true, rfl, iteF ?_⟩⟩
  have z02 := z1.trans z2
  refine ⟨_, rfl, _, rfl, one, dx, _, rfl, z02 _ _ hd, rightO tS (hv.same z02), one, v, _, _, rfl, ho.same z02, ny, .inl ⟨_, _, hv.same z02, nv, ax, ay, au, av, fun p2 H3 z3 n2 hp2 => ?_⟩⟩
  have e2a := (z02.trans z3) _ _ ha
  have e2b := (z02.trans z3) _ _ hb
  refine ⟨_, rfl, Ta, _, _, _, rfl, rfl, SqT.of e2a, at0, _, rfl, Tb, _, _, _, rfl, rfl, SqT.of e2b, bt1, _, _, rfl, rfl, m01, _, rfl, Tb, _, _, _, rfl, rfl, SqT.of e2b, bt0, _, rfl, Ta, _, _, _, rfl, rfl, SqT.of e2a, at1, _, _, rfl, rfl, m10, _, _, rfl, rfl, _, rfl, Ta, _, _, _, rfl, rfl, SqT.of e2a, at1, _, rfl, Tb, _, _, _, rfl, rfl, SqT.of e2b, bt1, _, _, rfl, rfl, m11, p2, _, _, rfl, nM, (Sm.sub w01 w10).mono (by decide), wM, (by rw [(dif_red (a0 := a0) (b0 := b0) na nb).1, (dif_red (a0 := a0) (b0 := b0) na nb).2] at hp2; exact hp2), fun H4 z4 => ⟨true, rfl, iteF ?_⟩⟩
  have z04 := (z02.trans z3).trans z4
  refine ⟨_, rfl, _, rfl, one, dx, _, rfl, z04 _ _ hd, rightO tM (hv.same z04), one, v, _, _, rfl, ho.same z04, ny, .inl ⟨_, _, hv.same z04, nv, ax, ay, au, av, fun p3 H5 z5 n3 hp3 => ?_⟩⟩
  have e3a := (z04.trans z5) _ _ ha
  have e3b := (z04.trans z5) _ _ hb
  refine ⟨_, rfl, Ta, _, _, _, rfl, rfl, SqT.of e3a, at0, _, rfl, Tb, _, _, _, rfl, rfl, SqT.of e3b, bt0, _, _, rfl, rfl, m00, _, rfl, Ta, _, _, _, rfl, rfl, SqT.of e3a, at1, _, rfl, Tb, _, _, _, rfl, rfl, SqT.of e3b, bt1, _, _, rfl, rfl, m11, p3, _, _, rfl, nM, w00.mono (by decide), wM, (by rw [(mul_red (a0 := a0) (b0 := b0) na nb).1, (mul_red (a0 := a0) (b0 := b0) na nb).2] at hp3; exact hp3), fun H6 z6 => ⟨true, rfl, iteF ?_⟩⟩
  have z06 := (z04.trans z5).trans z6
  have e4a := z06 _ _ ha
  have e4b := z06 _ _ hb
  refine ⟨_, rfl, Tb, _, _, _, rfl, rfl, SqT.of e4b, bt0, rfl, _, rfl, ?_⟩
  rw [decI]
  by_cases hb0 : b0 = 0
  case' pos =>
    rw [decide_eq_true hb0]
    refine iteF ?_
    have zX := z06
    generalize H6 = HX at zX ⊢
  case' neg =>
    rw [decide_eq_false hb0]
    have lo : (fsR (rT a0 a1) (rB a0 a1)).lookup ("over" : Str) = none := fsR_none (by decide +kernel) (by decide +kernel)
    have nu : rT b0 b1 ≠ 0 := fun z => hb0 ((rT_zero nb).mp z)
    refine iteT ⟨_, rfl, one, dx, _, rfl, z06 _ _ hd, lo, _, rfl, one, v, _, _, rfl, ho.same z06, ny, .inl ⟨_, _, hv.same z06, nu, ax, ay, au, av, fun p4 H7 z7 n4 hp4 => ?_⟩⟩
    have e5a := (z06.trans z7) _ _ ha
    have e5b := (z06.trans z7) _ _ hb
    have m2 : CMulW a1 b0 := s1.mulW s2
    have w2 : Sm 180 (a1 * b0) := s1.mul s2
    refine ⟨_, rfl, Ta, _, _, _, rfl, rfl, SqT.of e5a, at0, _, rfl, Tb, _, _, _, rfl, rfl, SqT.of e5b, bt1, _, _, rfl, rfl, m01, _, rfl, Ta, _, _, _, rfl, rfl, SqT.of e5a, at1, _, rfl, Tb, _, _, _, rfl, rfl, SqT.of e5b, bt0, _, _, rfl, rfl, m2, p4, _, _, rfl, Int.mul_ne_zero na hb0, w01.mono (by decide), w2.mono (by decide), (by rw [(over_red (a0 := a0) (b0 := b0) na nb hb0).1, (over_red (a0 := a0) (b0 := b0) na nb hb0).2] at hp4; exact hp4), fun HX z8 => ⟨true, rfl, iteF ?_⟩⟩
    have zX := (z06.trans z7).trans z8
  all_goals
    have eXa := zX _ _ ha
    have eXb := zX _ _ hb
    have hoX := ho.same zX
    have hvX := hv.same zX
    refine ⟨_, rfl, Ta, _, _, _, rfl, rfl, SqT.of eXa, at0, _, rfl, Tb, _, _, _, rfl, rfl, SqT.of eXb, bt1, _, _, rfl, rfl, m01, _, rfl, Tb, _, _, _, rfl, rfl, SqT.of eXb, bt0, _, rfl, Ta, _, _, _, rfl, rfl, SqT.of eXa, at1, _, _, rfl, rfl, m10, _, _, rfl, rfl, _, rfl, Ta, _, _, _, rfl, rfl, SqT.of eXa, at1, _, rfl, Tb, _, _, _, rfl, rfl, SqT.of eXb, bt1, _, _, rfl, rfl, m11, _, _, rfl, rfl, wAp, ?_⟩
    have lc : (fsR (rT a0 a1) (rB a0 a1)).lookup ("compared" : Str) = none := fsR_none (by decide +kernel) (by decide +kernel)
    have lb : (fsR (rT a0 a1) (rB a0 a1)).lookup ("is_below" : Str) = none := fsR_none (by decide +kernel) (by decide +kernel)
    have cz := cmp_zero (a0 := a0) (b0 := b0) na nb
    have cl := cmp_lt (a0 := a0) (b0 := b0) na nb
    refine ⟨_, rfl, one, dx, _, rfl, zX _ _ hd, lc, _, rfl, one, v, _, _, rfl, hoX, .inl ⟨_, _, hvX, ax, ay, au, av, fun H9 z9 => ?_⟩⟩
    refine ⟨_, rfl, _, _, rfl, rfl, .inr ⟨_, rfl, _, rfl, _, _, rfl, rfl, .inr ⟨_, rfl, _, _, rfl, rfl, rfl, _, rfl, ?_⟩⟩⟩
    refine Eq.mpr (congrArg (fun z : Bool => if (!z) = true then _ else _) (cmp_is cz cl)) ?_
    have z09 := zX.trans z9
    refine iteF ⟨_, rfl, one, dx, _, rfl, z09 _ _ hd, lb, _, rfl, one, v, _, _, rfl, ho.same z09, .inl ⟨_, _, hv.same z09, ax, ay, au, av, fun H10 z10 => ?_⟩⟩
    refine ⟨_, rfl, _, _, rfl, rfl, rfl, _, rfl, ?_⟩
    refine Eq.mpr (congrArg (fun z : Bool => if (!z) = true then _ else _) (bel_is cl)) ?_
    refine iteF ?_
    have z010 := z09.trans z10
    obtain ⟨ty, y1, y2, y3⟩ := eq_any (K := K) R EF (ho.same z010) (hv.same z010)
    refine ⟨_, rfl, _, rfl, one, dx, _, ty, rfl, z010 _ _ hd, y1, y2, y3 _ _ ?_⟩
    refine ⟨_, rfl, rfl, rfl, _, rfl, ?_⟩
    have exy : (decide (rT a0 a1 = rT b0 b1) && decide (rB a0 a1 = rB b0 b1)) = decide ((a0 * b1 - b0 * a1) * (a1 * b1) = 0) := by
      by_cases z : (a0 * b1 - b0 * a1) * (a1 * b1) = 0
      · have e := rP_eq na nb z
        rw [decide_eq_true z, decide_eq_true (show rT a0 a1 = rT b0 b1 from congrArg Prod.fst e), decide_eq_true (show rB a0 a1 = rB b0 b1 from congrArg Prod.snd e)]; rfl
      · rw [decide_eq_false z]
        rw [Bool.and_eq_false_iff]
        by_cases h1 : rT a0 a1 = rT b0 b1
        · refine .inr (decide_eq_false fun h2 => z (cz.mp ?_))
          rw [h1, h2]
        · exact .inl (decide_eq_false h1)
    refine Eq.mpr (congrArg (fun z : Bool => if (!z) = true then _ else _) (decide_eq_true (congrArg V.bl (exy.trans decI.symm)))) ?_
    refine iteF ⟨_, rfl, _, _, rfl, rfl, _, rfl, ?_⟩
    by_cases hap : (a0 * b1 - b0 * a1) * (a1 * b1) ≤ 0
    · rw [decide_eq_true hap]
      refine iteT ?_
      refine ⟨_, rfl, _, rfl, (by show 2 ≤ sizeLine; decide), fun M nM1 => ?_⟩
      have x1 := upd_new (o := .tup [.ref Ta, .ref Tb]) nM1
      have hM : upd H10 M (.tup [.ref Ta, .ref Tb]) M = some (.tup [.ref Ta, .ref Tb]) := upd_same
      generalize upd H10 M (.tup [V.ref Ta, .ref Tb]) = H11 at x1 hM ⊢
      have z011 := z010.trans x1
      refine ⟨M, _, rfl, SqT.of hM, rfl, _, _, rfl, _, _, rfl, rfl, ?_⟩
      refine ⟨_, rfl, _, rfl, (by show 2 ≤ sizeLine; decide), fun L1 nL1 => ?_⟩
      have x2 := upd_new (o := .lst [.ref one, v]) nL1
      have hL : Seq (upd H11 L1 (.lst [.ref one, v])) L1 [.ref one, v] := .inl upd_same
      generalize upd H11 L1 (.lst [V.ref one, v]) = H12 at x2 hL ⊢
      have z012 := z011.trans x2
      have few : Few [rP a0 a1, rP b0 b1] := ⟨by show 2 ≤ 20; decide, fun r hr => by
        simp only [List.mem_cons, List.not_mem_nil, or_false] at hr
        rcases hr with rfl | rfl
        · exact ⟨sx.mono (by decide), sy.mono (by decide), ny⟩
        · exact ⟨su.mono (by decide), sv.mono (by decide), nv⟩⟩
      have few3 : Few [rP a0 a1, rP b0 b1, rP a0 a1] := ⟨by show 3 ≤ 20; decide, fun r hr => by
        simp only [List.mem_cons, List.not_mem_nil, or_false] at hr
        rcases hr with rfl | rfl | rfl
        · exact ⟨sx.mono (by decide), sy.mono (by decide), ny⟩
        · exact ⟨su.mono (by decide), sv.mono (by decide), nv⟩
        · exact ⟨sx.mono (by decide), sy.mono (by decide), ny⟩⟩
      refine ⟨_, rfl, .inl ⟨L1, _, [rP a0 a1, rP b0 b1], rfl, hL, .cons (.inl ⟨one, rfl, ho.same z012⟩) (.cons (hv.same z012) .nil), few, List.cons_ne_nil _ _, fun p5 H13 z13 hp5 => ?_⟩⟩
      rw [min2 na nb, if_pos hap] at hp5
      have z013 := z012.trans z13
      refine ⟨_, rfl, Ta, _, _, _, rfl, rfl, SqT.of (z013 _ _ ha), at0, _, rfl, Ta, _, _, _, rfl, rfl, SqT.of (z013 _ _ ha), at1, p5, _, _, rfl, na, s0.mono (by decide), s1.mono (by decide), hp5, fun H14 z14 => ⟨true, rfl, iteF ?_⟩⟩
      have z014 := z013.trans z14
      refine ⟨_, rfl, _, rfl, (by show 2 ≤ sizeLine; decide), fun L2 nL2 => ?_⟩
      have x3 := upd_new (o := .tup [.ref one, v]) nL2
      have hL2 : Seq (upd H14 L2 (.tup [.ref one, v])) L2 [.ref one, v] := .inr upd_same
      generalize upd H14 L2 (.tup [V.ref one, v]) = H15 at x3 hL2 ⊢
      have z015 := z014.trans x3
      refine ⟨_, rfl, .inl ⟨L2, _, [rP a0 a1, rP b0 b1], rfl, hL2, .cons (.inl ⟨one, rfl, ho.same z015⟩) (.cons (hv.same z015) .nil), few, List.cons_ne_nil _ _, fun p6 H16 z16 hp6 => ?_⟩⟩
      rw [max2 na nb, if_pos hap] at hp6
      have z016 := z015.trans z16
      refine ⟨_, rfl, Tb, _, _, _, rfl, rfl, SqT.of (z016 _ _ hb), bt0, _, rfl, Tb, _, _, _, rfl, rfl, SqT.of (z016 _ _ hb), bt1, p6, _, _, rfl, nb, s2.mono (by decide), s3.mono (by decide), hp6, fun H17 z17 => ⟨true, rfl, iteF ?_⟩⟩
      have z017 := z016.trans z17
      refine ⟨_, rfl, _, rfl, _, rfl, (by show 3 ≤ sizeLine; decide), fun L3 nL3 => ?_⟩
      have x4 := upd_new (o := .lst [.ref one, v, .ref one]) nL3
      have hL3 : Seq (upd H17 L3 (.lst [.ref one, v, .ref one])) L3 [.ref one, v, .ref one] := .inl upd_same
      generalize upd H17 L3 (.lst [V.ref one, v, .ref one]) = H18 at x4 hL3 ⊢
      have z018 := z017.trans x4
      refine ⟨_, rfl, .inl ⟨L3, _, [rP a0 a1, rP b0 b1, rP a0 a1], rfl, hL3, .cons (.inl ⟨one, rfl, ho.same z018⟩) (.cons (hv.same z018) (.cons (.inl ⟨one, rfl, ho.same z018⟩) .nil)), few3, fun p7 H19 z19 hp7 => ?_⟩⟩
      rw [sum3 na nb] at hp7
      have z019 := z018.trans z19
      have e7a := z019 _ _ ha
      have e7b := z019 _ _ hb
      have w2a : Sm 92 (2 * a0) := (Sm.mul (j := 2) (k := 90) (show (2 : Int).natAbs < 2 ^ 2 by decide) s0)
      have m2a : CMulW 2 a0 := Sm.mulW (j := 2) (k := 90) (show (2 : Int).natAbs < 2 ^ 2 by decide) s0
      have m2ab : CMulW (2 * a0) b1 := w2a.mulW s3
      have w2ab : Sm 182 (2 * a0 * b1) := w2a.mul s3
      exact ⟨_, rfl, Ta, _, _, _, rfl, rfl, SqT.of e7a, at0, _, _, rfl, rfl, m2a, _, rfl, Tb, _, _, _, rfl, rfl, SqT.of e7b, bt1, _, _, rfl, rfl, m2ab, _, rfl, Tb, _, _, _, rfl, rfl, SqT.of e7b, bt0, _, rfl, Ta, _, _, _, rfl, rfl, SqT.of e7a, at1, _, _, rfl, rfl, m10, _, _, rfl, rfl, _, rfl, Ta, _, _, _, rfl, rfl, SqT.of e7a, at1, _, rfl, Tb, _, _, _, rfl, rfl, SqT.of e7b, bt1, _, _, rfl, rfl, m11, p7, _, _, rfl, nM, (Sm.add w2ab (w10.mono (by decide))).mono (by decide), wM, hp7, fun H20 z20 => q _ (z019.trans z20)⟩
    · rw [decide_eq_false hap]
      refine iteF ?_
      refine ⟨_, rfl, _, rfl, (by show 2 ≤ sizeLine; decide), fun M nM1 => ?_⟩
      have x1 := upd_new (o := .tup [.ref Tb, .ref Ta]) nM1
      have hM : upd H10 M (.tup [.ref Tb, .ref Ta]) M = some (.tup [.ref Tb, .ref Ta]) := upd_same
      generalize upd H10 M (.tup [V.ref Tb, .ref Ta]) = H11 at x1 hM ⊢
      have z011 := z010.trans x1
      refine ⟨M, _, rfl, SqT.of hM, rfl, _, _, rfl, _, _, rfl, rfl, ?_⟩
      refine ⟨_, rfl, _, rfl, (by show 2 ≤ sizeLine; decide), fun L1 nL1 => ?_⟩
      have x2 := upd_new (o := .lst [.ref one, v]) nL1
      have hL : Seq (upd H11 L1 (.lst [.ref one, v])) L1 [.ref one, v] := .inl upd_same
      generalize upd H11 L1 (.lst [V.ref one, v]) = H12 at x2 hL ⊢
      have z012 := z011.trans x2
      have few : Few [rP a0 a1, rP b0 b1] := ⟨by show 2 ≤ 20; decide, fun r hr => by
        simp only [List.mem_cons, List.not_mem_nil, or_false] at hr
        rcases hr with rfl | rfl
        · exact ⟨sx.mono (by decide), sy.mono (by decide), ny⟩
        · exact ⟨su.mono (by decide), sv.mono (by decide), nv⟩⟩
      have few3 : Few [rP a0 a1, rP b0 b1, rP a0 a1] := ⟨by show 3 ≤ 20; decide, fun r hr => by
        simp only [List.mem_cons, List.not_mem_nil, or_false] at hr
        rcases hr with rfl | rfl | rfl
        · exact ⟨sx.mono (by decide), sy.mono (by decide), ny⟩
        · exact ⟨su.mono (by decide), sv.mono (by decide), nv⟩
        · exact ⟨sx.mono (by decide), sy.mono (by decide), ny⟩⟩
      refine ⟨_, rfl, .inl ⟨L1, _, [rP a0 a1, rP b0 b1], rfl, hL, .cons (.inl ⟨one, rfl, ho.same z012⟩) (.cons (hv.same z012) .nil), few, List.cons_ne_nil _ _, fun p5 H13 z13 hp5 => ?_⟩⟩
      rw [min2 na nb, if_neg hap] at hp5
      have z013 := z012.trans z13
      refine ⟨_, rfl, Tb, _, _, _, rfl, rfl, SqT.of (z013 _ _ hb), bt0, _, rfl, Tb, _, _, _, rfl, rfl, SqT.of (z013 _ _ hb), bt1, p5, _, _, rfl, nb, s2.mono (by decide), s3.mono (by decide), hp5, fun H14 z14 => ⟨true, rfl, iteF ?_⟩⟩
      have z014 := z013.trans z14
      refine ⟨_, rfl, _, rfl, (by show 2 ≤ sizeLine; decide), fun L2 nL2 => ?_⟩
      have x3 := upd_new (o := .tup [.ref one, v]) nL2
      have hL2 : Seq (upd H14 L2 (.tup [.ref one, v])) L2 [.ref one, v] := .inr upd_same
      generalize upd H14 L2 (.tup [V.ref one, v]) = H15 at x3 hL2 ⊢
      have z015 := z014.trans x3
      refine ⟨_, rfl, .inl ⟨L2, _, [rP a0 a1, rP b0 b1], rfl, hL2, .cons (.inl ⟨one, rfl, ho.same z015⟩) (.cons (hv.same z015) .nil), few, List.cons_ne_nil _ _, fun p6 H16 z16 hp6 => ?_⟩⟩
      rw [max2 na nb, if_neg hap] at hp6
      have z016 := z015.trans z16
      refine ⟨_, rfl, Ta, _, _, _, rfl, rfl, SqT.of (z016 _ _ ha), at0, _, rfl, Ta, _, _, _, rfl, rfl, SqT.of (z016 _ _ ha), at1, p6, _, _, rfl, na, s0.mono (by decide), s1.mono (by decide), hp6, fun H17 z17 => ⟨true, rfl, iteF ?_⟩⟩
      have z017 := z016.trans z17
      refine ⟨_, rfl, _, rfl, _, rfl, (by show 3 ≤ sizeLine; decide), fun L3 nL3 => ?_⟩
      have x4 := upd_new (o := .lst [.ref one, v, .ref one]) nL3
      have hL3 : Seq (upd H17 L3 (.lst [.ref one, v, .ref one])) L3 [.ref one, v, .ref one] := .inl upd_same
      generalize upd H17 L3 (.lst [V.ref one, v, .ref one]) = H18 at x4 hL3 ⊢
      have z018 := z017.trans x4
      refine ⟨_, rfl, .inl ⟨L3, _, [rP a0 a1, rP b0 b1, rP a0 a1], rfl, hL3, .cons (.inl ⟨one, rfl, ho.same z018⟩) (.cons (hv.same z018) (.cons (.inl ⟨one, rfl, ho.same z018⟩) .nil)), few3, fun p7 H19 z19 hp7 => ?_⟩⟩
      rw [sum3 na nb] at hp7
      have z019 := z018.trans z19
      have e7a := z019 _ _ ha
      have e7b := z019 _ _ hb
      have w2a : Sm 92 (2 * a0) := (Sm.mul (j := 2) (k := 90) (show (2 : Int).natAbs < 2 ^ 2 by decide) s0)
      have m2a : CMulW 2 a0 := Sm.mulW (j := 2) (k := 90) (show (2 : Int).natAbs < 2 ^ 2 by decide) s0
      have m2ab : CMulW (2 * a0) b1 := w2a.mulW s3
      have w2ab : Sm 182 (2 * a0 * b1) := w2a.mul s3
      exact ⟨_, rfl, Ta, _, _, _, rfl, rfl, SqT.of e7a, at0, _, _, rfl, rfl, m2a, _, rfl, Tb, _, _, _, rfl, rfl, SqT.of e7b, bt1, _, _, rfl, rfl, m2ab, _, rfl, Tb, _, _, _, rfl, rfl, SqT.of e7b, bt0, _, rfl, Ta, _, _, _, rfl, rfl, SqT.of e7a, at1, _, _, rfl, rfl, m10, _, _, rfl, rfl, _, rfl, Ta, _, _, _, rfl, rfl, SqT.of e7a, at1, _, rfl, Tb, _, _, _, rfl, rfl, SqT.of e7b, bt1, _, _, rfl, rfl, m11, p7, _, _, rfl, nM, (Sm.add w2ab (w10.mono (by decide))).mono (by decide), wM, hp7, fun H20 z20 => q _ (z019.trans z20)⟩
end
end K1

/-! _law_errors_right. -/
namespace K1
open PySem PySem.Spec PyProof.Rows L2 LamX SX

/-- a def of the text whose code object is told -/
structure DefC (K : PySem.W.Frag) (x qual : Str) (st : Stmt) (f : Addr) (fd : FuncData) (c : Addr) : Prop where
  ex : ∃ (oc : Value) (od : Option Addr) (dV kV doc pm : Value) (an : Option Addr) (ct : Value) (osl : Array (Option Value)),
    fd = PySem.W.fnOf x qual (defArgs st) (defBody st) (defScope st) dV kV doc pm an (.ref c) ct ∧ K.lookup f = some ⟨oc, od, .func fd, osl⟩ ∧ PySem.W.codeIn K (.ref c) qual = true
theorem okC {P : Program} {w : World} {K : PySem.W.Frag} {mg : Str → Option Value} {base : Heap} {x qual : Str} {st : Stmt} {f c : Addr} {fd : FuncData} {N ps : List Str} {k : Nat} {sp : Sp}
    (F : DefC K x qual st f fd c) (S : FnScope N ps (defScope st)) (len : ∀ vs H Q E, sp vs H Q E → vs.length = ps.length)
    (hb : ∀ (A : Around) (outer : List Env) (s : Shared) (H : Hp) (vs : List V) (Q : VK) (E : XK), Room k (A.deeper (envOfC qual (defScope st) s.heap.objs.size f (.ref c))) → sp vs H Q E →
      ∃ t, PSs (cxOf CX0 P w K mg base N qual (defScope st) f (.ref c) A outer s H E).nox (defBody st) t ∧ t { nx := fun _ H' => Q .non H', rt := Q } (start N vs) H) : FnOk P w K mg base CX0 (k + 1) f fd ps sp := by
  obtain ⟨oc, od, dV, kV, doc, pm, an, ct, osl, rfl, lk, hcd⟩ := F.ex
  exact fn_of lk hcd S len fun A outer s H vs Q E hr h => let ⟨t, h1, h2⟩ := hb A outer s H vs Q E hr h; ⟨t, h1.nox, h2⟩
abbrev qLam : Str := (("_law_errors_right" : Str) ++ (".<locals>." : Str)) ++ ("<lambda>" : Str)
def spErrs (C CB : Addr) (T : List (Addr × Str)) : Sp := fun vs H Q _ => ∃ (one : Addr) (odd : V) (ty : String) (x y : Int), vs = [.ref one, odd] ∧ RatAt C H one x y ∧ y ≠ 0 ∧ Sm 90 x ∧ Sm 90 y ∧ Odd H odd ty ∧ Tabs T H ∧ ∀ H', ExtN H H' → Tabs T H' → Q (.bl true) H'
section
variable {P : Program} {w : World} {K : PySem.W.Frag} {mg : Str → Option Value} {base : Heap} {f C CB c PT_ : Addr} {fd : FuncData}
abbrev nErrs : List Str := ["_law_one", "_law_odd", "_law_found"]
theorem scErrs : FnScope nErrs ["_law_one", "_law_odd"] (defScope sErrors) := ⟨rfl, rfl, rfl, by decide +kernel, rfl, by decide +kernel, by decide +kernel⟩
--GEN
/-- behind i refusals: what stood in H0 stands (but the tables), the list holds i truths -/
structure J (H0 : Hp) (T : List (Addr × Str)) (L : Addr) (i : Nat) (H : Hp) : Prop where
  e : ExtN H0 H
  t : Tabs T H
  l : H L = some (.lst (List.replicate i (.bl true)))
theorem tabs_upd {T : List (Addr × Str)} {H : Hp} {L : Addr} {xs ys : List V} (t : Tabs T H) (h : H L = some (.lst xs)) : Tabs T (upd H L (.lst ys)) := fun p hp => by
  obtain ⟨ps, h1, h2, h3⟩ := t p hp
  have n1 : p.1 ≠ L := fun z => by rw [z, h] at h1; cases h1
  refine ⟨ps, by rw [upd_ne n1]; exact h1, h2, fun pos cv hc => ?_⟩
  obtain ⟨c, e1, e2⟩ := h3 pos cv hc
  have n2 : c ≠ L := fun z => by rw [z, h] at e2; unfold CodeO at e2; cases e2
  exact ⟨c, e1, by rw [upd_ne n2]; exact e2⟩
theorem app_step {K : PySem.W.Frag} {CB : Addr} {y : Str} {T : List (Addr × Str)} {t : XK → TE} {D : Ends} {σ : L2.St} {H0 H : Hp} {L : Addr} {i : Nat} (hσ : σ[2]? = some (some (.ref L))) (nL : H0 L = none) (j : J H0 T L i H) (hi : i < 100)
    (run : ∀ H1, J H0 T L i H1 → ∀ (E : XK) (Q0 : VK), (∀ d H', Told H1 H' d y → E (.ref CB) (some d) H') → t E σ H1 Q0) (next : ∀ H2, J H0 T L (i + 1) H2 → D.nx σ H2) :
    tDrop (tBM K "list" rAppend (tVar 2) (tCons (tLam T (TTref CB y) t) tNil)) D σ H := by
  refine ⟨_, hσ, .inl ⟨rfl, _, SqL.of j.l⟩, j.t, fun H1 ex tb E Q0 hE => ?_⟩
  have j1 : J H0 T L i H1 := ⟨j.e.trans ex, tb, ex _ _ j.l (fun _ z => nomatch z)⟩
  refine run H1 j1 E Q0 fun d H' td => ?_
  obtain ⟨fs, l1, l2⟩ := td.look
  have hl := td.1 _ _ j1.l
  refine hE d fs H' l1 l2 ⟨L, _, _, rfl, rfl, hl, by rw [List.length_replicate, sizeLine_eq]; omega, next _ ⟨fun b o h n => ?_, tabs_upd (j1.t.ext td.1) hl, ?_⟩⟩
  · rw [upd_ne (ne_of_none h nL)]
    exact td.1 _ _ (j1.e b o h n)
  · rw [upd_same]
    exact congrArg (fun z => some (HO.lst z)) List.replicate_succ'.symm
theorem items1 {C : Addr} {H : Hp} {v : V} {T : String} (o : Odd H v T) : Items C H [v] [false] := ⟨rfl, fun i w e => by
  match i, e with
  | 0, e => cases e; exact ⟨false, rfl, .inr ⟨rfl, T, o⟩⟩⟩
theorem items2 {C : Addr} {H : Hp} {a : Addr} {x y : Int} {v : V} {T : String} (r : RatAt C H a x y) (o : Odd H v T) : Items C H [.ref a, v] [true, false] := ⟨rfl, fun i w e => by
  match i, e with
  | 0, e => cases e; exact ⟨true, rfl, .inl ⟨rfl, x, y, .inl ⟨a, rfl, r⟩⟩⟩
  | 1, e => cases e; exact ⟨false, rfl, .inr ⟨rfl, T, o⟩⟩⟩
theorem RatAt.ext {C : Addr} {H H' : Hp} {a : Addr} {t b : Int} (s : ExtN H H') (h : RatAt C H a t b) : RatAt C H' a t b := let ⟨dx, h⟩ := h; ⟨dx, s _ _ h fun _ z => nomatch z⟩
theorem Odd.ext {H H' : Hp} {v : V} {T : String} (s : ExtN H H') (h : Odd H v T) : Odd H' v T := by
  cases h with
  | non => exact .non
  | bl b => exact .bl b
  | str x => exact .str x
  | lst h => exact .lst (s _ _ h fun _ z => nomatch z)
  | tup h => exact .tup (s _ _ h fun _ z => nomatch z)
  | dK h => exact .dK (s _ _ h fun _ z => nomatch z)
theorem ok_errs {g : Addr} {fdg : FuncData} (G : Glob mg) (R : RatF K C) (BR : BadR P w K mg base CB) (MR : MkR P w K mg base C CB) (HQ : HasIsR P w K mg base C) (HF : HasOf P w K mg base C CB) (OE : Own P w K mg base C CX0 2 "__eq__" ["self", "other"] (spEq K C)) (EF : EqF K C)
    (HA : HasOp P w K mg base C .Add (spAddR C CB)) (HS : HasOp P w K mg base C .Sub (spSubR C CB)) (HM : HasOp P w K mg base C .Mult (spMulR C CB)) (oA : ∀ T ∈ kinds6, OpT K C .Add T) (oS : ∀ T ∈ kinds6, OpT K C .Sub T) (oM : ∀ T ∈ kinds6, OpT K C .Mult T)
    (MO : Mth P w K mg base C 6 "over" (spOver C CB)) (MC : Mth P w K mg base C 6 "compared" (spCmp C CB V.int)) (MB : Mth P w K mg base C 7 "is_below" (spCmp C CB fun n => .bl (decide (n < 0))))
    (HL : Has P w K mg base (L2.CX P w) 9 "least_of" ["ratios"] (spBest K C CB minR)) (HG : Has P w K mg base (L2.CX P w) 8 "greatest_of" ["ratios"] (spBest K C CB maxR)) (HD : Has P w K mg base (L2.CX P w) 7 "added" ["ratios"] (spAdded K C CB))
    (mR : mg "_law_refused" = some (.ref g)) (FR : DefAt K "_law_refused" "_law_refused" sRefused g fdg) (kA : PySem.W.kitAny K (.ref C) [.type "list", .type "tuple"] = some false)
    (TB : TabB base mg c PT_) {T : List (Addr × Str)} (memT : (PT_, qLam) ∈ T) (uniT : ∀ p ∈ T, p.1 = PT_ → p.2 = qLam)
    (F : DefC K "_law_errors_right" "_law_errors_right" sErrors f fd c) : FnOk P w K mg base CX0 12 f fd ["_law_one", "_law_odd"] (spErrs C CB T) := by
  obtain ⟨fm_, fdm_, ds, M, GM, bM0, hv, bM⟩ := MR.m
  obtain ⟨fq, fdq, mq, kq, bq, Gq⟩ := HQ.h
  obtain ⟨ff, fdf, Mf, bf, Gf⟩ := HF.h
  obtain ⟨fe, fde, ME, bE, GE⟩ := OE.h
  obtain ⟨fa, fda, Ma, ba, Ga⟩ := HA.h
  obtain ⟨fs, fds, Ms, bs, Gs⟩ := HS.h
  obtain ⟨fm, fdm, Mm, bm, Gm⟩ := HM.h
  obtain ⟨fo, fdo, Mo, bo, Go⟩ := MO.h
  obtain ⟨fc, fdc, Mc, bc, Gc⟩ := MC.h
  obtain ⟨fb, fdb, Mb, bb, Gb⟩ := MB.h
  obtain ⟨fl, fdl, ml, kl, bl, Gl_⟩ := HL.h
  obtain ⟨fg, fdg_, mg_, kg, bg, Gg⟩ := HG.h
  obtain ⟨fd_, fdd, md, kd, bd, Gd⟩ := HD.h
  have kR := FR.kp
  have bR : Binds K fdg ["_law_ask", "_law_part"] [] := FR.bindsN fun _ _ _ _ _ _ us hl => match us, hl with | [_, _], _ => rfl
  obtain ⟨ocR, odR, dVR, kVR, docR, pmR, anR, cdvR, ctR, oslR, rfl, lkR, hcR, _, _⟩ := FR.ex
  refine okC F scErrs (fun vs H Q E ⟨_, _, _, _, _, e, _⟩ => by rw [e]; rfl) (fun A outer s H vs Q E hr ⟨one, odd, ty, x, y, e, ho, y0, sx, sy, hod, tb, q⟩ => ?_)
  subst e
  refine ⟨_, pss_cons (ps_if (PW.pt (pw_or (pt_val (pe_call Gq (hr.mono (by decide)) rfl mq kq bq .nil pass0 (pa_cons (pv 1) pa_nil))) (pw_or (pt_not (pt_val (pe_call Gq (hr.mono (by decide)) rfl mq kq bq .nil pass0 (pa_cons (pv 0) pa_nil))))
      (pw_or1 (pt_not (pt_val (pe_call Gq (hr.mono (by decide)) rfl mq kq bq .nil pass0 (pa_cons (pe_fld (pv 0) rfl) pa_nil)))))))) (pss_one (ps_ret pe_bl)) pss_nil)
    (pss_cons (ps_set (i := 2) scErrs.nd rfl (Or.inl rfl) (pe_lst pa_nil))
    (pss_cons (ps_expr (pe_bm PySem.F.plainAttrs_list PySem.F.slot_list_append PySem.F.type_list_append mt_append (pv 2) (pa_cons (pe_lam2 (X := (cxOf CX0 P w K mg base nErrs "_law_errors_right" (defScope sErrors) f (.ref c) A outer s H E).nox) (T := T) (TT := TTref CB "top") (P := PT_) (c := c) (k := 9) rfl mR kR lkR hcR bR scRefused rfl (.inl rfl) (refused_gives BR.toBadF) TB rfl memT uniT hr (lamS_by (sc := defScope sErrors) (by decide +kernel)) rfl (fun _ _ _ _ _ => rfl) (fun A2 o2 s2 H2 E2 f2 c2 hr2 => pe_make M GM (hr2.mono (show 4 ≤ 9 by decide)) rfl MR.g bM hv (passes_call (takes_of rfl rfl rfl rfl) fun _ _ _ _ z => z) (pa_cons (pv 1) pa_nil))) pa_nil)))
    (pss_cons (ps_expr (pe_bm PySem.F.plainAttrs_list PySem.F.slot_list_append PySem.F.type_list_append mt_append (pv 2) (pa_cons (pe_lam2 (X := (cxOf CX0 P w K mg base nErrs "_law_errors_right" (defScope sErrors) f (.ref c) A outer s H E).nox) (T := T) (TT := TTref CB "bottom") (P := PT_) (c := c) (k := 9) rfl mR kR lkR hcR bR scRefused rfl (.inl rfl) (refused_gives BR.toBadF) TB rfl memT uniT hr (lamS_by (sc := defScope sErrors) (by decide +kernel)) rfl (fun _ _ _ _ _ => rfl) (fun A2 o2 s2 H2 E2 f2 c2 hr2 => pe_make M GM (hr2.mono (show 4 ≤ 9 by decide)) rfl MR.g bM0 .nil (passes_call (takes_of rfl rfl rfl rfl) fun _ _ _ _ z => z) (pa_cons pe_int (pa_cons (pv 1) pa_nil)))) pa_nil)))
    (pss_cons (ps_expr (pe_bm PySem.F.plainAttrs_list PySem.F.slot_list_append PySem.F.type_list_append mt_append (pv 2) (pa_cons (pe_lam2 (X := (cxOf CX0 P w K mg base nErrs "_law_errors_right" (defScope sErrors) f (.ref c) A outer s H E).nox) (T := T) (TT := TTref CB "top") (P := PT_) (c := c) (k := 9) rfl mR kR lkR hcR bR scRefused rfl (.inl rfl) (refused_gives BR.toBadF) TB rfl memT uniT hr (lamS_by (sc := defScope sErrors) (by decide +kernel)) rfl (fun _ _ _ _ _ => rfl) (fun A2 o2 s2 H2 E2 f2 c2 hr2 => pe_make M GM (hr2.mono (show 4 ≤ 9 by decide)) rfl MR.g bM0 .nil (passes_call (takes_of rfl rfl rfl rfl) fun _ _ _ _ z => z) (pa_cons (pv 1) (pa_cons (pv 1) pa_nil)))) pa_nil)))
    (pss_cons (ps_expr (pe_bm PySem.F.plainAttrs_list PySem.F.slot_list_append PySem.F.type_list_append mt_append (pv 2) (pa_cons (pe_lam2 (X := (cxOf CX0 P w K mg base nErrs "_law_errors_right" (defScope sErrors) f (.ref c) A outer s H E).nox) (T := T) (TT := TTref CB "bottom") (P := PT_) (c := c) (k := 9) rfl mR kR lkR hcR bR scRefused rfl (.inl rfl) (refused_gives BR.toBadF) TB rfl memT uniT hr (lamS_by (sc := defScope sErrors) (by decide +kernel)) rfl (fun _ _ _ _ _ => rfl) (fun A2 o2 s2 H2 E2 f2 c2 hr2 => pe_make M GM (hr2.mono (show 4 ≤ 9 by decide)) rfl MR.g bM0 .nil (passes_call (takes_of rfl rfl rfl rfl) fun _ _ _ _ z => z) (pa_cons (show PE (lamCx (cxOf CX0 P w K mg base nErrs "_law_errors_right" (defScope sErrors) f (.ref c) A outer s H E).nox A2 o2 s2 H2 E2 { kind := .function, names := [("_law_one", .free), ("Ratio", .globalImplicit)], isGenerator := false, isCoroutine := false } f2 c2) _ (tFld K (tVar 0) "top") from pe_fld (pv 0) (by rfl)) (pa_cons pe_int pa_nil)))) pa_nil)))
    (pss_cons (ps_expr (pe_bm PySem.F.plainAttrs_list PySem.F.slot_list_append PySem.F.type_list_append mt_append (pv 2) (pa_cons (pe_lam2 (X := (cxOf CX0 P w K mg base nErrs "_law_errors_right" (defScope sErrors) f (.ref c) A outer s H E).nox) (T := T) (TT := TTref CB "other") (P := PT_) (c := c) (k := 9) rfl mR kR lkR hcR bR scRefused rfl (.inl rfl) (refused_gives BR.toBadF) TB rfl memT uniT hr (lamS_by (sc := defScope sErrors) (by decide +kernel)) rfl (fun _ _ _ _ _ => rfl) (fun A2 o2 s2 H2 E2 f2 c2 hr2 => pe_op (r := rOwn K C .Add (spAddR C CB) E2) (op_own (op := .Add) Ma HA.sf HA.nr Ga (hr2.mono (show 6 ≤ 9 by decide)) ba (passes_call (takes_of rfl rfl rfl rfl) fun _ _ _ _ z => z)) (pv 0) (pv 1))) pa_nil)))
    (pss_cons (ps_expr (pe_bm PySem.F.plainAttrs_list PySem.F.slot_list_append PySem.F.type_list_append mt_append (pv 2) (pa_cons (pe_lam2 (X := (cxOf CX0 P w K mg base nErrs "_law_errors_right" (defScope sErrors) f (.ref c) A outer s H E).nox) (T := T) (TT := TTref CB "other") (P := PT_) (c := c) (k := 9) rfl mR kR lkR hcR bR scRefused rfl (.inl rfl) (refused_gives BR.toBadF) TB rfl memT uniT hr (lamS_by (sc := defScope sErrors) (by decide +kernel)) rfl (fun _ _ _ _ _ => rfl) (fun A2 o2 s2 H2 E2 f2 c2 hr2 => pe_op (r := rOwn K C .Sub (spSubR C CB) E2) (op_own (op := .Sub) Ms HS.sf HS.nr Gs (hr2.mono (show 6 ≤ 9 by decide)) bs (passes_call (takes_of rfl rfl rfl rfl) fun _ _ _ _ z => z)) (pv 0) (pv 1))) pa_nil)))
    (pss_cons (ps_expr (pe_bm PySem.F.plainAttrs_list PySem.F.slot_list_append PySem.F.type_list_append mt_append (pv 2) (pa_cons (pe_lam2 (X := (cxOf CX0 P w K mg base nErrs "_law_errors_right" (defScope sErrors) f (.ref c) A outer s H E).nox) (T := T) (TT := TTref CB "other") (P := PT_) (c := c) (k := 9) rfl mR kR lkR hcR bR scRefused rfl (.inl rfl) (refused_gives BR.toBadF) TB rfl memT uniT hr (lamS_by (sc := defScope sErrors) (by decide +kernel)) rfl (fun _ _ _ _ _ => rfl) (fun A2 o2 s2 H2 E2 f2 c2 hr2 => pe_op (r := rOwn K C .Mult (spMulR C CB) E2) (op_own (op := .Mult) Mm HM.sf HM.nr Gm (hr2.mono (show 6 ≤ 9 by decide)) bm (passes_call (takes_of rfl rfl rfl rfl) fun _ _ _ _ z => z)) (pv 0) (pv 1))) pa_nil)))
    (pss_cons (ps_expr (pe_bm PySem.F.plainAttrs_list PySem.F.slot_list_append PySem.F.type_list_append mt_append (pv 2) (pa_cons (pe_lam2 (X := (cxOf CX0 P w K mg base nErrs "_law_errors_right" (defScope sErrors) f (.ref c) A outer s H E).nox) (T := T) (TT := TTref CB "other") (P := PT_) (c := c) (k := 9) rfl mR kR lkR hcR bR scRefused rfl (.inl rfl) (refused_gives BR.toBadF) TB rfl memT uniT hr (lamS_by (sc := defScope sErrors) (by decide +kernel)) rfl (fun _ _ _ _ _ => rfl) (fun A2 o2 s2 H2 E2 f2 c2 hr2 => pe_meth (pv 0) R.cl Mo Go (hr2.mono (show 6 ≤ 9 by decide)) bo .nil (passes_call (takes_of rfl rfl rfl rfl) fun _ _ _ _ z => z) (pa_cons (pv 1) pa_nil))) pa_nil)))
    (pss_cons (ps_expr (pe_bm PySem.F.plainAttrs_list PySem.F.slot_list_append PySem.F.type_list_append mt_append (pv 2) (pa_cons (pe_lam2 (X := (cxOf CX0 P w K mg base nErrs "_law_errors_right" (defScope sErrors) f (.ref c) A outer s H E).nox) (T := T) (TT := TTref CB "other") (P := PT_) (c := c) (k := 9) rfl mR kR lkR hcR bR scRefused rfl (.inl rfl) (refused_gives BR.toBadF) TB rfl memT uniT hr (lamS_by (sc := defScope sErrors) (by decide +kernel)) rfl (fun _ _ _ _ _ => rfl) (fun A2 o2 s2 H2 E2 f2 c2 hr2 => pe_meth (pv 0) R.cl Mc Gc (hr2.mono (show 6 ≤ 9 by decide)) bc .nil (passes_call (takes_of rfl rfl rfl rfl) fun _ _ _ _ z => z) (pa_cons (pv 1) pa_nil))) pa_nil)))
    (pss_cons (ps_expr (pe_bm PySem.F.plainAttrs_list PySem.F.slot_list_append PySem.F.type_list_append mt_append (pv 2) (pa_cons (pe_lam2 (X := (cxOf CX0 P w K mg base nErrs "_law_errors_right" (defScope sErrors) f (.ref c) A outer s H E).nox) (T := T) (TT := TTref CB "other") (P := PT_) (c := c) (k := 9) rfl mR kR lkR hcR bR scRefused rfl (.inl rfl) (refused_gives BR.toBadF) TB rfl memT uniT hr (lamS_by (sc := defScope sErrors) (by decide +kernel)) rfl (fun _ _ _ _ _ => rfl) (fun A2 o2 s2 H2 E2 f2 c2 hr2 => pe_meth (pv 0) R.cl Mb Gb (hr2.mono (show 7 ≤ 9 by decide)) bb .nil (passes_call (takes_of rfl rfl rfl rfl) fun _ _ _ _ z => z) (pa_cons (pv 1) pa_nil))) pa_nil)))
    (pss_cons (ps_expr (pe_bm PySem.F.plainAttrs_list PySem.F.slot_list_append PySem.F.type_list_append mt_append (pv 2) (pa_cons (pe_lam2 (X := (cxOf CX0 P w K mg base nErrs "_law_errors_right" (defScope sErrors) f (.ref c) A outer s H E).nox) (T := T) (TT := TTref CB "zero") (P := PT_) (c := c) (k := 9) rfl mR kR lkR hcR bR scRefused rfl (.inl rfl) (refused_gives BR.toBadF) TB rfl memT uniT hr (lamS_by (sc := defScope sErrors) (by decide +kernel)) rfl (fun _ _ _ _ _ => rfl) (fun A2 o2 s2 H2 E2 f2 c2 hr2 => pe_meth (pv 0) R.cl Mo Go (hr2.mono (show 6 ≤ 9 by decide)) bo .nil (passes_call (takes_of rfl rfl rfl rfl) fun _ _ _ _ z => z) (pa_cons pe_int pa_nil))) pa_nil)))
    (pss_cons (ps_expr (pe_bm PySem.F.plainAttrs_list PySem.F.slot_list_append PySem.F.type_list_append mt_append (pv 2) (pa_cons (pe_lam2 (X := (cxOf CX0 P w K mg base nErrs "_law_errors_right" (defScope sErrors) f (.ref c) A outer s H E).nox) (T := T) (TT := TTref CB "zero") (P := PT_) (c := c) (k := 9) rfl mR kR lkR hcR bR scRefused rfl (.inl rfl) (refused_gives BR.toBadF) TB rfl memT uniT hr (lamS_by (sc := defScope sErrors) (by decide +kernel)) rfl (fun _ _ _ _ _ => rfl) (fun A2 o2 s2 H2 E2 f2 c2 hr2 => pe_meth (pv 0) R.cl Mo Go (hr2.mono (show 6 ≤ 9 by decide)) bo .nil (passes_call (takes_of rfl rfl rfl rfl) fun _ _ _ _ z => z) (pa_cons (pe_make M GM (hr2.mono (show 4 ≤ 9 by decide)) rfl MR.g bM hv (passes_call (takes_of rfl rfl rfl rfl) fun _ _ _ _ z => z) (pa_cons pe_int pa_nil)) pa_nil))) pa_nil)))
    (pss_cons (ps_expr (pe_bm PySem.F.plainAttrs_list PySem.F.slot_list_append PySem.F.type_list_append mt_append (pv 2) (pa_cons (pe_lam2 (X := (cxOf CX0 P w K mg base nErrs "_law_errors_right" (defScope sErrors) f (.ref c) A outer s H E).nox) (T := T) (TT := TTref CB "zero") (P := PT_) (c := c) (k := 9) rfl mR kR lkR hcR bR scRefused rfl (.inl rfl) (refused_gives BR.toBadF) TB rfl memT uniT hr (lamS_by (sc := defScope sErrors) (by decide +kernel)) rfl (fun _ _ _ _ _ => rfl) (fun A2 o2 s2 H2 E2 f2 c2 hr2 => pe_meth (pv 0) R.cl Mo Go (hr2.mono (show 6 ≤ 9 by decide)) bo .nil (passes_call (takes_of rfl rfl rfl rfl) fun _ _ _ _ z => z) (pa_cons (pe_op (r := rOwn K C .Sub (spSubR C CB) E2) (op_own (op := .Sub) Ms HS.sf HS.nr Gs (hr2.mono (show 6 ≤ 9 by decide)) bs (passes_call (takes_of rfl rfl rfl rfl) fun _ _ _ _ z => z)) (pv 0) (pv 0)) pa_nil))) pa_nil)))
    (pss_cons (ps_expr (pe_bm PySem.F.plainAttrs_list PySem.F.slot_list_append PySem.F.type_list_append mt_append (pv 2) (pa_cons (pe_lam2 (X := (cxOf CX0 P w K mg base nErrs "_law_errors_right" (defScope sErrors) f (.ref c) A outer s H E).nox) (T := T) (TT := TTref CB "value") (P := PT_) (c := c) (k := 9) rfl mR kR lkR hcR bR scRefused rfl (.inl rfl) (refused_gives BR.toBadF) TB rfl memT uniT hr (lamS_by (sc := defScope sErrors) (by decide +kernel)) rfl (fun _ _ _ _ _ => rfl) (fun A2 o2 s2 H2 E2 f2 c2 hr2 => pe_smeth (pe_glob (v := .ref C) rfl MR.g rfl) HF.rd Mf Gf (hr2.mono (show 6 ≤ 9 by decide)) bf (passes_call (takes_of rfl rfl rfl rfl) fun _ _ _ _ z => z) (pa_cons (pv 1) pa_nil))) pa_nil)))
    (pss_cons (ps_expr (pe_bm PySem.F.plainAttrs_list PySem.F.slot_list_append PySem.F.type_list_append mt_append (pv 2) (pa_cons (pe_lam2 (X := (cxOf CX0 P w K mg base nErrs "_law_errors_right" (defScope sErrors) f (.ref c) A outer s H E).nox) (T := T) (TT := TTref CB "ratios") (P := PT_) (c := c) (k := 9) rfl mR kR lkR hcR bR scRefused rfl (.inl rfl) (refused_gives BR.toBadF) TB rfl memT uniT hr (lamS_by (sc := defScope sErrors) (by decide +kernel)) rfl (fun _ _ _ _ _ => rfl) (fun A2 o2 s2 H2 E2 f2 c2 hr2 => pe_call Gd (hr2.mono (show 7 ≤ 9 by decide)) rfl md kd bd .nil (passes_call (takes_of rfl rfl rfl rfl) fun _ _ _ _ z => z) (pa_cons (pe_lst (pa_cons (pv 0) (pa_cons (pv 1) pa_nil))) pa_nil))) pa_nil)))
    (pss_cons (ps_expr (pe_bm PySem.F.plainAttrs_list PySem.F.slot_list_append PySem.F.type_list_append mt_append (pv 2) (pa_cons (pe_lam2 (X := (cxOf CX0 P w K mg base nErrs "_law_errors_right" (defScope sErrors) f (.ref c) A outer s H E).nox) (T := T) (TT := TTref CB "ratios") (P := PT_) (c := c) (k := 9) rfl mR kR lkR hcR bR scRefused rfl (.inl rfl) (refused_gives BR.toBadF) TB rfl memT uniT hr (lamS_by (sc := defScope sErrors) (by decide +kernel)) rfl (fun _ _ _ _ _ => rfl) (fun A2 o2 s2 H2 E2 f2 c2 hr2 => pe_call Gl_ (hr2.mono (show 9 ≤ 9 by decide)) rfl ml kl bl .nil (passes_call (takes_of rfl rfl rfl rfl) fun _ _ _ _ z => z) (pa_cons (pe_lst (pa_cons (pv 1) pa_nil)) pa_nil))) pa_nil)))
    (pss_cons (ps_expr (pe_bm PySem.F.plainAttrs_list PySem.F.slot_list_append PySem.F.type_list_append mt_append (pv 2) (pa_cons (pe_lam2 (X := (cxOf CX0 P w K mg base nErrs "_law_errors_right" (defScope sErrors) f (.ref c) A outer s H E).nox) (T := T) (TT := TTref CB "ratios") (P := PT_) (c := c) (k := 9) rfl mR kR lkR hcR bR scRefused rfl (.inl rfl) (refused_gives BR.toBadF) TB rfl memT uniT hr (lamS_by (sc := defScope sErrors) (by decide +kernel)) rfl (fun _ _ _ _ _ => rfl) (fun A2 o2 s2 H2 E2 f2 c2 hr2 => pe_call Gg (hr2.mono (show 8 ≤ 9 by decide)) rfl mg_ kg bg .nil (passes_call (takes_of rfl rfl rfl rfl) fun _ _ _ _ z => z) (pa_cons (pe_lst pa_nil) pa_nil))) pa_nil)))
    (pss_cons (ps_expr (pe_bm PySem.F.plainAttrs_list PySem.F.slot_list_append PySem.F.type_list_append mt_append (pv 2) (pa_cons (pe_lam2 (X := (cxOf CX0 P w K mg base nErrs "_law_errors_right" (defScope sErrors) f (.ref c) A outer s H E).nox) (T := T) (TT := TTref CB "ratios") (P := PT_) (c := c) (k := 9) rfl mR kR lkR hcR bR scRefused rfl (.inl rfl) (refused_gives BR.toBadF) TB rfl memT uniT hr (lamS_by (sc := defScope sErrors) (by decide +kernel)) rfl (fun _ _ _ _ _ => rfl) (fun A2 o2 s2 H2 E2 f2 c2 hr2 => pe_call Gl_ (hr2.mono (show 9 ≤ 9 by decide)) rfl ml kl bl .nil (passes_call (takes_of rfl rfl rfl rfl) fun _ _ _ _ z => z) (pa_cons (pe_tup pa_nil) pa_nil))) pa_nil)))
    (pss_cons (ps_expr (pe_bm PySem.F.plainAttrs_list PySem.F.slot_list_append PySem.F.type_list_append mt_append (pv 2) (pa_cons (pe_lam2 (X := (cxOf CX0 P w K mg base nErrs "_law_errors_right" (defScope sErrors) f (.ref c) A outer s H E).nox) (T := T) (TT := TTref CB "ratios") (P := PT_) (c := c) (k := 9) rfl mR kR lkR hcR bR scRefused rfl (.inl rfl) (refused_gives BR.toBadF) TB rfl memT uniT hr (lamS_by (sc := defScope sErrors) (by decide +kernel)) rfl (fun _ _ _ _ _ => rfl) (fun A2 o2 s2 H2 E2 f2 c2 hr2 => pe_call Gd (hr2.mono (show 7 ≤ 9 by decide)) rfl md kd bd .nil (passes_call (takes_of rfl rfl rfl rfl) fun _ _ _ _ z => z) (pa_cons (pv 0) pa_nil))) pa_nil)))
    (pss_cons (ps_expr (pe_bm PySem.F.plainAttrs_list PySem.F.slot_list_append PySem.F.type_list_append mt_append (pv 2) (pa_cons (pe_lam2 (X := (cxOf CX0 P w K mg base nErrs "_law_errors_right" (defScope sErrors) f (.ref c) A outer s H E).nox) (T := T) (TT := TTref CB "top") (P := PT_) (c := c) (k := 9) rfl mR kR lkR hcR bR scRefused rfl (.inl rfl) (refused_gives BR.toBadF) TB rfl memT uniT hr (lamS_by (sc := defScope sErrors) (by decide +kernel)) rfl (fun _ _ _ _ _ => rfl) (fun A2 o2 s2 H2 E2 f2 c2 hr2 => pe_make M GM (hr2.mono (show 4 ≤ 9 by decide)) rfl MR.g bM hv (passes_call (takes_of rfl rfl rfl rfl) fun _ _ _ _ z => z) (pa_cons (pv 0) pa_nil))) pa_nil)))
    (pss_one (ps_ret (pe_and (pe_cmpR (op_eqD hr.units) (pv 2) (pe_op op_rep (pe_lst (pa_cons pe_bl pa_nil)) pe_int) (nomark _))
      (pe_and (pe_cmpR (op_eqO ME GE (hr.mono (by decide)) bE pass0) (pe_call Gd (hr.mono (by decide)) rfl md kd bd .nil passL (pa_cons (pe_lst pa_nil) pa_nil)) pe_int (nomark _))
      (pe_and (pe_callB call_isi (by rfl) G.isi (by decide +kernel) (pa_cons (pe_call Gd (hr.mono (by decide)) rfl md kd bd .nil passL (pa_cons (pe_tup pa_nil) pa_nil)) (pa_cons (pe_glob (v := .ref C) rfl MR.g rfl) pa_nil)))
      (pe_one (pe_cmpR (op_eqO ME GE (hr.mono (by decide)) bE pass0) (pe_smeth (pe_glob (v := .ref C) rfl MR.g rfl) HF.rd Mf Gf (hr.mono (by decide)) bf passL (pa_cons (pv 0) pa_nil)) (pv 0) (nomark _))))))))))))))))))))))))))))), ?_⟩
  obtain ⟨dx, hd⟩ := id ho
  have ax : Sm 3000 x := sx.mono (by decide)
  have ay : Sm 3000 y := sy.mono (by decide)
  have lo : (fsR x y).lookup ("over" : Str) = none := fsR_none (by decide +kernel) (by decide +kernel)
  have lc : (fsR x y).lookup ("compared" : Str) = none := fsR_none (by decide +kernel) (by decide +kernel)
  have lb : (fsR x y).lookup ("is_below" : Str) = none := fsR_none (by decide +kernel) (by decide +kernel)
  refine ⟨_, rfl, odd, rfl, .inr ⟨ty, hod, false, rfl, iteF ?_⟩⟩
  refine ⟨_, rfl, _, rfl, .inl ⟨x, y, .inl ⟨one, rfl, ho⟩, true, rfl, iteF ?_⟩⟩
  refine ⟨_, rfl, one, C, dx, _, _, rfl, hd, R.cl, R.nT, fsR_top _ _, _, rfl, .inl ⟨x, 1, .inr ⟨rfl, rfl⟩, true, rfl, iteF ?_⟩⟩
  refine ⟨(by show 0 ≤ sizeLine; decide), fun L nL => ?_⟩
  have j0 : J H T L 0 (upd H L (.lst [])) := ⟨ExtN.of (upd_new nL), tb.ext (upd_new nL), upd_same⟩
  refine app_step (σ := [some (.ref one), some odd, some (.ref L)]) (H0 := H) (i := 0) rfl nL j0 (by decide) (fun HH jj E Q0 hE => ?_) fun H1 j1 => ?_
  · have h1 := ho.ext jj.e
    have o1 := hod.ext jj.e
    have d1 := jj.e _ _ hd (fun _ z => nomatch z)
    exact ⟨_, rfl, fun a dz na nd ne => ⟨a, dz, odd, .int 1, rfl, upd_same, .inr (.inl ⟨(o1.same (made_same na nd ne)).not, fun d H' td => hE d H' (td.from (made_same na nd ne))⟩)⟩⟩
  refine app_step (σ := [some (.ref one), some odd, some (.ref L)]) (H0 := H) (i := 1) rfl nL j1 (by decide) (fun HH jj E Q0 hE => ?_) fun H2 j2 => ?_
  · have h1 := ho.ext jj.e
    have o1 := hod.ext jj.e
    have d1 := jj.e _ _ hd (fun _ z => nomatch z)
    exact ⟨_, rfl, fun a dz na nd ne => ⟨a, dz, .int 1, odd, rfl, upd_same, .inr (.inr ⟨1, rfl, .inl (o1.same (made_same na nd ne)).not, fun d H' td => hE d H' (td.from (made_same na nd ne))⟩)⟩⟩
  refine app_step (σ := [some (.ref one), some odd, some (.ref L)]) (H0 := H) (i := 2) rfl nL j2 (by decide) (fun HH jj E Q0 hE => ?_) fun H3 j3 => ?_
  · have h1 := ho.ext jj.e
    have o1 := hod.ext jj.e
    have d1 := jj.e _ _ hd (fun _ z => nomatch z)
    exact ⟨_, rfl, _, rfl, fun a dz na nd ne => ⟨a, dz, odd, odd, rfl, upd_same, .inr (.inl ⟨(o1.same (made_same na nd ne)).not, fun d H' td => hE d H' (td.from (made_same na nd ne))⟩)⟩⟩
  refine app_step (σ := [some (.ref one), some odd, some (.ref L)]) (H0 := H) (i := 3) rfl nL j3 (by decide) (fun HH jj E Q0 hE => ?_) fun H4 j4 => ?_
  · have h1 := ho.ext jj.e
    have o1 := hod.ext jj.e
    have d1 := jj.e _ _ hd (fun _ z => nomatch z)
    exact ⟨_, rfl, one, C, dx, _, _, rfl, d1, R.cl, R.nT, fsR_top _ _, fun a dz na nd ne => ⟨a, dz, .int x, .int 0, rfl, upd_same, .inr (.inr ⟨x, rfl, .inr rfl, fun d H' td => hE d H' (td.from (made_same na nd ne))⟩)⟩⟩
  refine app_step (σ := [some (.ref one), some odd, some (.ref L)]) (H0 := H) (i := 4) rfl nL j4 (by decide) (fun HH jj E Q0 hE => ?_) fun H5 j5 => ?_
  · have h1 := ho.ext jj.e
    have o1 := hod.ext jj.e
    have d1 := jj.e _ _ hd (fun _ z => nomatch z)
    obtain ⟨fo', ro', q1, q2, q3⟩ := oA ty hod.mem
    exact ⟨_, rfl, _, rfl, one, dx, _, rfl, d1, .inr ⟨ty, fo', ro', o1.ty, q1, q2, q3⟩, one, odd, x, y, rfl, h1, y0, .inr ⟨ty, o1, hE⟩⟩
  refine app_step (σ := [some (.ref one), some odd, some (.ref L)]) (H0 := H) (i := 5) rfl nL j5 (by decide) (fun HH jj E Q0 hE => ?_) fun H6 j6 => ?_
  · have h1 := ho.ext jj.e
    have o1 := hod.ext jj.e
    have d1 := jj.e _ _ hd (fun _ z => nomatch z)
    obtain ⟨fo', ro', q1, q2, q3⟩ := oS ty hod.mem
    exact ⟨_, rfl, _, rfl, one, dx, _, rfl, d1, .inr ⟨ty, fo', ro', o1.ty, q1, q2, q3⟩, one, odd, x, y, rfl, h1, y0, .inr ⟨ty, o1, hE⟩⟩
  refine app_step (σ := [some (.ref one), some odd, some (.ref L)]) (H0 := H) (i := 6) rfl nL j6 (by decide) (fun HH jj E Q0 hE => ?_) fun H7 j7 => ?_
  · have h1 := ho.ext jj.e
    have o1 := hod.ext jj.e
    have d1 := jj.e _ _ hd (fun _ z => nomatch z)
    obtain ⟨fo', ro', q1, q2, q3⟩ := oM ty hod.mem
    exact ⟨_, rfl, _, rfl, one, dx, _, rfl, d1, .inr ⟨ty, fo', ro', o1.ty, q1, q2, q3⟩, one, odd, x, y, rfl, h1, y0, .inr ⟨ty, o1, hE⟩⟩
  refine app_step (σ := [some (.ref one), some odd, some (.ref L)]) (H0 := H) (i := 7) rfl nL j7 (by decide) (fun HH jj E Q0 hE => ?_) fun H8 j8 => ?_
  · have h1 := ho.ext jj.e
    have o1 := hod.ext jj.e
    have d1 := jj.e _ _ hd (fun _ z => nomatch z)
    exact ⟨_, rfl, one, dx, _, rfl, d1, lo, _, rfl, one, odd, x, y, rfl, h1, y0, .inr (.inr ⟨ty, o1, hE⟩)⟩
  refine app_step (σ := [some (.ref one), some odd, some (.ref L)]) (H0 := H) (i := 8) rfl nL j8 (by decide) (fun HH jj E Q0 hE => ?_) fun H9 j9 => ?_
  · have h1 := ho.ext jj.e
    have o1 := hod.ext jj.e
    have d1 := jj.e _ _ hd (fun _ z => nomatch z)
    exact ⟨_, rfl, one, dx, _, rfl, d1, lc, _, rfl, one, odd, x, y, rfl, h1, .inr ⟨ty, o1, hE⟩⟩
  refine app_step (σ := [some (.ref one), some odd, some (.ref L)]) (H0 := H) (i := 9) rfl nL j9 (by decide) (fun HH jj E Q0 hE => ?_) fun H10 j10 => ?_
  · have h1 := ho.ext jj.e
    have o1 := hod.ext jj.e
    have d1 := jj.e _ _ hd (fun _ z => nomatch z)
    exact ⟨_, rfl, one, dx, _, rfl, d1, lb, _, rfl, one, odd, x, y, rfl, h1, .inr ⟨ty, o1, hE⟩⟩
  refine app_step (σ := [some (.ref one), some odd, some (.ref L)]) (H0 := H) (i := 10) rfl nL j10 (by decide) (fun HH jj E Q0 hE => ?_) fun H11 j11 => ?_
  · have h1 := ho.ext jj.e
    have o1 := hod.ext jj.e
    have d1 := jj.e _ _ hd (fun _ z => nomatch z)
    exact ⟨_, rfl, one, dx, _, rfl, d1, lo, one, .int 0, x, y, rfl, h1, y0, .inr (.inl ⟨0, 1, .inr ⟨rfl, rfl⟩, rfl, hE⟩)⟩
  refine app_step (σ := [some (.ref one), some odd, some (.ref L)]) (H0 := H) (i := 11) rfl nL j11 (by decide) (fun HH jj E Q0 hE => ?_) fun H12 j12 => ?_
  · have h1 := ho.ext jj.e
    have o1 := hod.ext jj.e
    have d1 := jj.e _ _ hd (fun _ z => nomatch z)
    refine ⟨_, rfl, one, dx, _, rfl, d1, lo, ?_⟩
    refine mk_int Sm.zero fun p H' s np hp => ?_
    exact ⟨one, .ref p, x, y, rfl, h1.same s, y0, .inr (.inl ⟨0, 1, .inl ⟨p, rfl, hp⟩, rfl, fun d H2 td => hE d H2 (td.from s)⟩)⟩
  refine app_step (σ := [some (.ref one), some odd, some (.ref L)]) (H0 := H) (i := 12) rfl nL j12 (by decide) (fun HH jj E Q0 hE => ?_) fun H13 j13 => ?_
  · have h1 := ho.ext jj.e
    have o1 := hod.ext jj.e
    have d1 := jj.e _ _ hd (fun _ z => nomatch z)
    refine ⟨_, rfl, one, dx, _, rfl, d1, lo, ?_⟩
    refine ⟨_, rfl, _, rfl, one, dx, _, rfl, d1, .inl ⟨one, dx, _, rfl, d1⟩, one, .ref one, x, y, rfl, h1, y0, .inl ⟨x, y, .inl ⟨one, rfl, h1⟩, y0, ax, ay, ax, ay, fun p H' s np hp => ?_⟩⟩
    exact ⟨one, .ref p, x, y, rfl, h1.same s, y0, .inr (.inl ⟨_, _, .inl ⟨p, rfl, hp⟩, (rT_zero (Int.mul_ne_zero y0 y0)).mpr (Int.sub_self _), fun d H2 td => hE d H2 (td.from s)⟩)⟩
  refine app_step (σ := [some (.ref one), some odd, some (.ref L)]) (H0 := H) (i := 13) rfl nL j13 (by decide) (fun HH jj E Q0 hE => ?_) fun H14 j14 => ?_
  · have h1 := ho.ext jj.e
    have o1 := hod.ext jj.e
    have d1 := jj.e _ _ hd (fun _ z => nomatch z)
    exact ⟨rfl, _, rfl, odd, rfl, .inr ⟨ty, o1, hE⟩⟩
  refine app_step (σ := [some (.ref one), some odd, some (.ref L)]) (H0 := H) (i := 14) rfl nL j14 (by decide) (fun HH jj E Q0 hE => ?_) fun H15 j15 => ?_
  · have h1 := ho.ext jj.e
    have o1 := hod.ext jj.e
    have d1 := jj.e _ _ hd (fun _ z => nomatch z)
    refine ⟨_, rfl, _, rfl, (by show 2 ≤ sizeLine; decide), fun A na => ?_⟩
    exact ⟨.ref A, rfl, .inr ⟨.inl ⟨A, [.ref one, odd], [true, false], rfl, .inl upd_same, items2 (h1.same (upd_new na)) (o1.same (upd_new na)), by show 2 ≤ 100; decide, rfl⟩, fun d H2 td => hE d H2 (td.from (upd_new na))⟩⟩
  refine app_step (σ := [some (.ref one), some odd, some (.ref L)]) (H0 := H) (i := 15) rfl nL j15 (by decide) (fun HH jj E Q0 hE => ?_) fun H16 j16 => ?_
  · have h1 := ho.ext jj.e
    have o1 := hod.ext jj.e
    have d1 := jj.e _ _ hd (fun _ z => nomatch z)
    refine ⟨_, rfl, (by show 1 ≤ sizeLine; decide), fun A na => ?_⟩
    exact ⟨.ref A, rfl, .inr ⟨.inl (.inl ⟨A, [odd], [false], rfl, .inl upd_same, items1 (o1.same (upd_new na)), by show 1 ≤ 100; decide, rfl⟩), fun d H2 td => hE d H2 (td.from (upd_new na))⟩⟩
  refine app_step (σ := [some (.ref one), some odd, some (.ref L)]) (H0 := H) (i := 16) rfl nL j16 (by decide) (fun HH jj E Q0 hE => ?_) fun H17 j17 => ?_
  · have h1 := ho.ext jj.e
    have o1 := hod.ext jj.e
    have d1 := jj.e _ _ hd (fun _ z => nomatch z)
    refine ⟨(by show 0 ≤ sizeLine; decide), fun A na => ?_⟩
    exact ⟨.ref A, rfl, .inr ⟨.inr ⟨A, rfl, .inl upd_same⟩, fun d H2 td => hE d H2 (td.from (upd_new na))⟩⟩
  refine app_step (σ := [some (.ref one), some odd, some (.ref L)]) (H0 := H) (i := 17) rfl nL j17 (by decide) (fun HH jj E Q0 hE => ?_) fun H18 j18 => ?_
  · have h1 := ho.ext jj.e
    have o1 := hod.ext jj.e
    have d1 := jj.e _ _ hd (fun _ z => nomatch z)
    refine ⟨(by show 0 ≤ sizeLine; decide), fun A na => ?_⟩
    exact ⟨.ref A, rfl, .inr ⟨.inr ⟨A, rfl, .inr upd_same⟩, fun d H2 td => hE d H2 (td.from (upd_new na))⟩⟩
  refine app_step (σ := [some (.ref one), some odd, some (.ref L)]) (H0 := H) (i := 18) rfl nL j18 (by decide) (fun HH jj E Q0 hE => ?_) fun H19 j19 => ?_
  · have h1 := ho.ext jj.e
    have o1 := hod.ext jj.e
    have d1 := jj.e _ _ hd (fun _ z => nomatch z)
    exact ⟨_, rfl, .ref one, rfl, .inr ⟨.inr ⟨one, x, y, rfl, h1, kA⟩, hE⟩⟩
  refine app_step (σ := [some (.ref one), some odd, some (.ref L)]) (H0 := H) (i := 19) rfl nL j19 (by decide) (fun HH jj E Q0 hE => ?_) fun H20 j20 => ?_
  · have h1 := ho.ext jj.e
    have o1 := hod.ext jj.e
    have d1 := jj.e _ _ hd (fun _ z => nomatch z)
    exact ⟨_, rfl, fun a dz na nd ne => ⟨a, dz, .ref one, .int 1, rfl, upd_same, .inr (.inl ⟨(h1.same (made_same na nd ne)).not R, fun d H' td => hE d H' (td.from (made_same na nd ne))⟩)⟩⟩
  have d20 := j20.e _ _ hd (fun _ z => nomatch z)
  have h20 := ho.ext j20.e
  refine ⟨_, rfl, (by show 1 ≤ sizeLine; decide), fun A na => ?_⟩
  have s1 := upd_new (o := .lst [V.bl true]) na
  refine ⟨A, 20, _, rfl, rfl, upd_same, by decide, by decide, (by show 20 ≤ sizeLine; decide), fun B nb => ?_⟩
  have s2 := upd_new (o := .lst (List.replicate (20 : Int).toNat [V.bl true]).flatten) nb
  have eB : (List.replicate (20 : Int).toNat [V.bl true]).flatten = List.replicate 20 (V.bl true) := by decide +kernel
  have hB : (upd (upd H20 A (.lst [V.bl true])) B (.lst (List.replicate (20 : Int).toNat [V.bl true]).flatten)) B = some (.lst (List.replicate 20 (V.bl true))) := by rw [upd_same, eB]
  have s12 := s1.trans s2
  generalize (upd (upd H20 A (.lst [V.bl true])) B (.lst (List.replicate (20 : Int).toNat [V.bl true]).flatten)) = H21 at s12 hB ⊢
  have fl : ∀ d ∈ List.replicate 20 (PyData.bool true), flat1 d = true := fun d m => by rw [List.eq_of_mem_replicate m]; rfl
  have dp : ∀ n, DpAll K H21 (List.replicate n (V.bl true)) (List.replicate n (PyData.bool true)) := fun n => by
    induction n with
    | zero => exact .nil
    | succ n ih => exact .cons (.bl true) ih
  refine ⟨.list (List.replicate 20 (.bool true)), .list (List.replicate 20 (.bool true)), .lst (SqL.of (s12 _ _ j20.l)) (dp 20), .lst (SqL.of hB) (dp 20), (flat_shaped fl).1, (flat_shaped fl).1, true, ?_, iteT ?_⟩
  · have : PyData.eqv (.list (List.replicate 20 (.bool true))) (.list (List.replicate 20 (.bool true))) = true := by simp [List.replicate, PyData.eqv, PyData.eqvAll]
    rw [this]
  have few0 : Few [] := ⟨by show 0 ≤ 20; decide, fun r z => nomatch z⟩
  refine ⟨(by show 0 ≤ sizeLine; decide), fun A2 n2 => ?_⟩
  have s3 := upd_new (o := .lst []) n2
  refine ⟨.ref A2, rfl, .inl ⟨A2, [], [], rfl, .inl upd_same, .nil, few0, fun p H22 s4 hp => ?_⟩⟩
  obtain ⟨dp1, hdp⟩ := id hp
  refine ⟨p, dp1, _, _, rfl, hdp, .int 0, EF.int, p, .int 0, _, _, rfl, hp, .inr (.inl ⟨0, rfl, true, rfl, iteT ?_⟩)⟩
  refine ⟨(by show 0 ≤ sizeLine; decide), fun A3 n3 => ?_⟩
  have s5 := upd_new (o := .tup []) n3
  refine ⟨.ref A3, rfl, .inl ⟨A3, [], [], rfl, .inr upd_same, .nil, few0, fun p2 H23 s6 hp2 => ?_⟩⟩
  refine ⟨_, _, _, _, _, rfl, .own C, .base (hp2.ty R), R.me, true, rfl, iteT ?_⟩
  have s20 : Same H20 H23 := (((s12.trans s3).trans s4).trans s5).trans s6
  refine ⟨rfl, _, rfl, .ref one, rfl, .inl ⟨x, y, .inl ⟨one, rfl, h20.same s20⟩, sx.mono (by decide), fun p3 H24 s7 hp3 => ?_⟩⟩
  obtain ⟨dp3, hdp3⟩ := id hp3
  refine ⟨_, rfl, p3, dp3, _, _, rfl, hdp3, ((h20.same s20).same s7).ty R, EF.own, p3, .ref one, x, y, rfl, hp3, .inl ⟨one, x, y, rfl, (h20.same s20).same s7, ?_⟩⟩
  rw [decide_eq_true rfl, decide_eq_true rfl]
  exact q _ (j20.e.trans (ExtN.of (s20.trans s7))) (j20.t.ext (s20.trans s7))
end
end K1

/-! the law -/
namespace K1
open PySem PySem.Spec PyProof.Rows L2 LamX SX

def spLaw (K : PySem.W.Frag) (T : List (Addr × Str)) : Sp := fun vs H Q _ => ∃ (a : Addr) (ns : List Int), vs = [.ref a] ∧ SqL K H a (ns.map V.int) ∧ ns.length ≤ 63 ∧ Tabs T H ∧ ∀ H', Q (.bl true) H'
theorem Tabs.keep {T : List (Addr × Str)} {H H' : Hp} {p : Addr} {n : Nat} (t : Tabs T H) (h : TubAt H p n) (k : Keep p H H') : Tabs T H' := fun q hq => by
  obtain ⟨ps, h1, h2, h3⟩ := t q hq
  obtain ⟨_, _, _, e, _⟩ := h
  have n1 : q.1 ≠ p := fun z => by rw [z, e] at h1; cases h1
  refine ⟨ps, k _ _ n1 h1, h2, fun pos cv hc => ?_⟩
  obtain ⟨c, e1, e2⟩ := h3 pos cv hc
  have n2 : c ≠ p := fun z => by rw [z, e] at e2; unfold CodeO at e2; cases e2
  exact ⟨c, e1, k _ _ n2 e2⟩
theorem TubAt.ext {H H' : Hp} {p : Addr} {n : Nat} (s : ExtN H H') (h : TubAt H p n) : TubAt H' p n := let ⟨x, y, z, e, q⟩ := h; ⟨x, y, z, s _ _ e (fun _ z => nomatch z), q⟩
theorem seq_par3 {i j l : Nat} {ta : TA} {u : TS} {D : Ends} {σ : L2.St} {H : Hp} (h : ta σ H fun vs H1 => ∃ a b c, vs = [a, b, c] ∧ u D (((σ.set i (some a)).set j (some b)).set l (some c)) H1) : tSeq (tPar3 i j l ta) u D σ H := h
theorem cons_step {te : TE} {ts : TA} {σ : L2.St} {H : Hp} {Q : List V → Hp → Prop} (h : te σ H fun x H1 => ts σ H1 fun xs H2 => Q (x :: xs) H2) : tCons te ts σ H Q := h
theorem mk_ix2 {K : PySem.W.Frag} {C CB : Addr} {σ : L2.St} {i : Nat} {H : Hp} {n m k l : Int} {Ta : Addr} {xs : List V} {Q : VK} {E : XK} (hv : σ[i]? = some (some (.ref Ta))) (hs : SqT K H Ta xs) (e0 : atI xs k = some (.int n)) (e1 : atI xs l = some (.int m)) (b0 : m ≠ 0) (sn : Sm 8000 n) (sm : Sm 8000 m) (q : New C H n m Q) :
    tMake C (spRI K C CB) [] E (tCons (tOp (rIxT K) (tVar i) (tC (.int k))) (tCons (tOp (rIxT K) (tVar i) (tC (.int l))) tNil)) σ H Q := ⟨_, hv, Ta, _, _, _, rfl, rfl, hs, e0, _, hv, Ta, _, _, _, rfl, rfl, hs, e1, mk_new b0 sn sm q⟩
theorem mk_ix1 {K : PySem.W.Frag} {C CB : Addr} {σ : L2.St} {i : Nat} {H : Hp} {n k : Int} {Ta : Addr} {xs : List V} {Q : VK} {E : XK} (hv : σ[i]? = some (some (.ref Ta))) (hs : SqT K H Ta xs) (e0 : atI xs k = some (.int n)) (sn : Sm 8000 n) (q : New C H n 1 Q) :
    tMake C (spRI K C CB) [V.int 1] E (tCons (tOp (rIxT K) (tVar i) (tC (.int k))) tNil) σ H Q := ⟨_, hv, Ta, _, _, _, rfl, rfl, hs, e0, mk_new (by decide) sn (Sm.one (by decide)) q⟩
section
variable {P : Program} {w : World} {K : PySem.W.Frag} {mg : Str → Option Value} {base : Heap} {f C CB : Addr} {fd : FuncData}
abbrev nLaw : List Str := ["_law_script", "_law_tub_here", "_law_turn", "_law_a", "_law_b", "_law_spot", "_law_one", "_law_other", "_law_whole", "_law_odd"]
theorem scLaw : FnScope nLaw ["_law_script"] (defScope sLaw) := ⟨rfl, rfl, rfl, by decide +kernel, rfl, by decide +kernel, by decide +kernel⟩
theorem ok_law (G : Glob mg) (MR : MkR P w K mg base C CB) (HF : HasOf P w K mg base C CB) (HS : HasScoop P w K mg base) (HI : Has P w K mg base CX0 3 "_law_is" ["_law_ratio", "_law_top", "_law_bottom"] (spIs C))
    (HT : Has P w K mg base CX0 1 "_law_tub" ["_law_script"] (spPail K)) (HP : Has P w K mg base CX0 2 "_law_pair" ["_law_tub_here"] spPair) (HC : Has P w K mg base CX0 5 "_law_checks_right" ["_law_tub_here"] spChecks)
    (HX : Has P w K mg base CX0 7 "_law_texts_right" ["_law_ratio", "_law_top", "_law_bottom"] (spTexts C)) (HU : Has P w K mg base CX0 10 "_law_sums_right" pSums (spSums C)) {T : List (Addr × Str)}
    (HE : Has P w K mg base CX0 12 "_law_errors_right" ["_law_one", "_law_odd"] (spErrs C CB T)) (F : DefAt K "law" "law" sLaw f fd) : FnOk P w K mg base CX0 13 f fd ["_law_script"] (spLaw K T) := by
  obtain ⟨fm, fdm, ds, M, GM, bM0, hv, bM⟩ := MR.m
  obtain ⟨ff, fdf, Mf, bf, Gf⟩ := HF.h
  obtain ⟨fs, fds, mS, kS, bS, GS⟩ := HS.h
  obtain ⟨fi, fdi, mI, kI, bI, GI⟩ := HI.h
  obtain ⟨ft, fdt, mT, kT, bT, GT⟩ := HT.h
  obtain ⟨fp, fdp, mP, kP, bP, GP⟩ := HP.h
  obtain ⟨fc, fdc, mC, kC, bC, GC⟩ := HC.h
  obtain ⟨fx, fdx, mX, kX, bX, GX⟩ := HX.h
  obtain ⟨fu, fdu, mU, kU, bU, GU⟩ := HU.h
  obtain ⟨fe, fde, mE, kE, bE, GE⟩ := HE.h
  refine okN F scLaw (fun vs H Q E ⟨_, _, e, _⟩ => by rw [e]; rfl) (fun cdv A outer s H vs Q E hr ⟨sc, ns, e, hS, hl, tb, q⟩ => ?_)
  subst e
  have r1 := hr.mono (show 1 ≤ 12 by decide)
  have r2 := hr.mono (show 2 ≤ 12 by decide)
  have r3 := hr.mono (show 3 ≤ 12 by decide)
  have r4 := hr.mono (show 4 ≤ 12 by decide)
  have r5 := hr.mono (show 5 ≤ 12 by decide)
  have r6 := hr.mono (show 6 ≤ 12 by decide)
  have r7 := hr.mono (show 7 ≤ 12 by decide)
  have r10 := hr.mono (show 10 ≤ 12 by decide)
  refine ⟨_, pss_cons (ps_set (i := 1) scLaw.nd rfl (Or.inl rfl) (pe_call GT r1 rfl mT kT bT .nil pass0 (pa_cons (pv 0) pa_nil)))
    (pss_cons (ps_for PassesOwn.never rfl (pi_range1 (by rfl) G.range (pa_cons pe_int pa_nil)) (pg_name (i := 2) scLaw.nd rfl (Or.inl rfl))
      (pss_cons (ps_par3 (i := 3) (j := 4) (l := 5) (by rfl) scLaw.nd rfl rfl rfl (by decide) (by decide) (by decide) rfl rfl rfl (pa_cons (pe_call GP r2 rfl mP kP bP .nil pass0 (pa_cons (pv 1) pa_nil)) (pa_cons (pe_call GP r2 rfl mP kP bP .nil pass0 (pa_cons (pv 1) pa_nil))
          (pa_cons (pe_call GS r1 rfl mS kS bS .nil pass0 (pa_cons (pv 1) (pa_cons pe_int pa_nil))) pa_nil))) (by rfl))
      (pss_cons (ps_if (pt_not (pt_val (pe_call GC r5 rfl mC kC bC .nil pass0 (pa_cons (pv 1) pa_nil)))) (pss_one (ps_ret pe_bl)) pss_nil)
      (pss_cons (ps_par3 (i := 6) (j := 7) (l := 8) (by rfl) scLaw.nd rfl rfl rfl (by decide) (by decide) (by decide) rfl rfl rfl
          (pa_cons (pe_make M GM r4 rfl MR.g bM0 .nil passL (pa_cons (pe_ix ix_tup (pv 3) pe_int (fun _ _ => rfl)) (pa_cons (pe_ix ix_tup (pv 3) pe_int (fun _ _ => rfl)) pa_nil)))
          (pa_cons (pe_make M GM r4 rfl MR.g bM0 .nil passL (pa_cons (pe_ix ix_tup (pv 4) pe_int (fun _ _ => rfl)) (pa_cons (pe_ix ix_tup (pv 4) pe_int (fun _ _ => rfl)) pa_nil)))
          (pa_cons (pe_make M GM r4 rfl MR.g bM hv passL (pa_cons (pe_ix ix_tup (pv 4) pe_int (fun _ _ => rfl)) pa_nil)) pa_nil))) (by rfl))
      (pss_cons (ps_if (PW.pt (pw_or (pt_not (pt_val (pe_call GI r3 rfl mI kI bI .nil pass0 (pa_cons (pv 6) (pa_cons (pe_ix ix_tup (pv 3) pe_int (fun _ _ => rfl)) (pa_cons (pe_ix ix_tup (pv 3) pe_int (fun _ _ => rfl)) pa_nil))))))
        (pw_or (pt_not (pt_val (pe_call GX r7 rfl mX kX bX .nil pass0 (pa_cons (pv 6) (pa_cons (pe_ix ix_tup (pv 3) pe_int (fun _ _ => rfl)) (pa_cons (pe_ix ix_tup (pv 3) pe_int (fun _ _ => rfl)) pa_nil))))))
        (pw_or1 (pt_not (pt_val (pe_call GX r7 rfl mX kX bX .nil pass0 (pa_cons (pv 8) (pa_cons (pe_ix ix_tup (pv 4) pe_int (fun _ _ => rfl)) (pa_cons pe_int pa_nil)))))))))) (pss_one (ps_ret pe_bl)) pss_nil)
      (pss_cons (ps_if (PW.pt (pw_or (pt_not (pt_val (pe_call GU r10 rfl mU kU bU .nil pass0 (pa_cons (pv 3) (pa_cons (pv 4) (pa_cons (pv 6) (pa_cons (pv 7) pa_nil)))))))
        (pw_or1 (pt_not (pt_val (pe_call GU r10 rfl mU kU bU .nil pass0 (pa_cons (pv 3) (pa_cons (pe_tup (pa_cons (pe_ix ix_tup (pv 4) pe_int (fun _ _ => rfl)) (pa_cons pe_int pa_nil))) (pa_cons (pv 6) (pa_cons (pe_ix ix_tup (pv 4) pe_int (fun _ _ => rfl)) pa_nil)))))))))) (pss_one (ps_ret pe_bl)) pss_nil)
      (pss_cons (ps_set (i := 9) scLaw.nd rfl (Or.inl rfl) (pe_ix ix_list (pe_lst (pa_cons pe_non (pa_cons pe_bl (pa_cons pe_str (pa_cons (pe_lst (pa_cons pe_int pa_nil)) (pa_cons (pe_tup (pa_cons pe_int (pa_cons pe_int pa_nil))) (pa_cons pe_dnewK pa_nil))))))) (pv 5) (fun _ _ => rfl)))
      (pss_one (ps_if (PW.pt (pw_or (pt_not (pt_val (pe_call GE hr rfl mE kE bE .nil pass0 (pa_cons (pv 6) (pa_cons (pv 9) pa_nil)))))
        (pw_or1 (pt_not (pt_val (pe_call GI r3 rfl mI kI bI .nil pass0 (pa_cons (pe_smeth (pe_glob (v := .ref C) rfl MR.g rfl) HF.rd Mf Gf r6 bf passL (pa_cons (pe_ix ix_tup (pv 4) pe_int (fun _ _ => rfl)) pa_nil)) (pa_cons (pe_ix ix_tup (pv 4) pe_int (fun _ _ => rfl)) (pa_cons pe_int pa_nil))))))))) (pss_one (ps_ret pe_bl)) pss_nil)))))))))
    (pss_one (ps_ret pe_bl))), ?_⟩
  refine call1 (i := 0) rfl ⟨sc, ns, rfl, hS, hl, fun p H1 z s1 np hp hP => ?_⟩
  refine ⟨4, rfl, by decide, by decide, for_range (n := 4) (fun i σ H2 => Tabs T H2 ∧ TubAt H2 p (35 * i) ∧ ∃ v2 v3 v4 v5 v6 v7 v8 v9 : Option V, σ = [some (.ref sc), some (.ref p), v2, v3, v4, v5, v6, v7, v8, v9]) ⟨tb.ext s1, ⟨z, 0, z, hp, hP⟩, none, none, none, none, none, none, none, none, rfl⟩ ?_ ?_⟩
  · rintro i σ H2 hi ⟨tb2, t2, v2, v3, v4, v5, v6, v7, v8, v9, rfl⟩
    refine call1 (i := 1) rfl ⟨p, 35 * i, rfl, t2, by omega, fun a0 a1 Ta H3 na at26 ab26 nTa ha3 t3 k3 => ?_⟩
    refine call1 (i := 1) rfl ⟨p, _, rfl, t3, by omega, fun b0 b1 Tb H4 nb bt26 bb26 nTb hb4 t4 k4 => ?_⟩
    refine dip_c (i := 1) rfl t4 (by omega) (by decide) (by decide +kernel) fun spot H5 p0 p1 t5 k5 => ?_
    refine ⟨_, _, _, rfl, ?_⟩
    refine call1 (i := 1) rfl ⟨p, _, rfl, t5, by omega, fun H6 t6 k6 => ?_⟩
    refine ⟨true, rfl, iteF ?_⟩
    have nTa2 : Ta ≠ p := t2.ne nTa
    have nTb2 : Tb ≠ p := t3.ne nTb
    have e6a : H6 Ta = some (.tup [.int a0, .int a1]) := ((k4.trans k5).trans k6) _ _ nTa2 ha3
    have e6b : H6 Tb = some (.tup [.int b0, .int b1]) := (k5.trans k6) _ _ nTb2 hb4
    have tb6 : Tabs T H6 := Tabs.keep tb2 t2 (((k3.trans k4).trans k5).trans k6)
    have t6' : TubAt H6 p (35 * (i + 1)) := t6.mono (by omega) (by omega)
    have at0 : atI [V.int a0, V.int a1] 0 = some (V.int a0) := atI_nat (j := 0) rfl
    have at1 : atI [V.int a0, V.int a1] 1 = some (V.int a1) := atI_nat (j := 1) rfl
    have bt0 : atI [V.int b0, V.int b1] 0 = some (V.int b0) := atI_nat (j := 0) rfl
    have bt1 : atI [V.int b0, V.int b1] 1 = some (V.int b1) := atI_nat (j := 1) rfl
    have s26 : ∀ {n : Int}, n.natAbs < 10 ^ 26 → Sm 90 n := fun h => Nat.lt_trans h (by decide +kernel)
    have sa0 := s26 at26
    have sa1 := s26 ab26
    have sb0 := s26 bt26
    have sb1 := s26 bb26
    obtain ⟨o1, o2⟩ := red_one b0
    dsimp only [tNext]
    refine seq_par3 ?_
    refine cons_step ?_
    refine mk_ix2 (i := 3) rfl (SqT.of e6a) at0 at1 na (sa0.mono (by decide)) (sa1.mono (by decide)) fun one H7 z7 n7 h7 => ?_
    have e7b := z7 _ _ e6b
    refine cons_step ?_
    refine mk_ix2 (i := 4) rfl (SqT.of e7b) bt0 bt1 nb (sb0.mono (by decide)) (sb1.mono (by decide)) fun oth H8 z8 n8 h8 => ?_
    have e8b := z8 _ _ e7b
    refine cons_step ?_
    refine mk_ix1 (i := 4) rfl (SqT.of e8b) bt0 (sb0.mono (by decide)) fun whl H9 z9 n9 h9 => ?_
    refine ⟨_, _, _, rfl, ?_⟩
    have z69 := (z7.trans z8).trans z9
    have e9a := z69 _ _ e6a
    have e9b := z69 _ _ e6b
    have one9 : RatAt C H9 one (rT a0 a1) (rB a0 a1) := h7.same (z8.trans z9)
    have oth9 : RatAt C H9 oth (rT b0 b1) (rB b0 b1) := h8.same z9
    refine ⟨_, rfl, _, rfl, Ta, _, _, _, rfl, rfl, SqT.of e9a, at0, _, rfl, Ta, _, _, _, rfl, rfl, SqT.of e9a, at1, one, a0, a1, rfl, na, sa0.mono (by decide), sa1.mono (by decide), one9, fun H10 z10 => ⟨true, rfl, iteF ?_⟩⟩
    have e10a := z10 _ _ e9a
    have e10b := z10 _ _ e9b
    refine ⟨_, rfl, _, rfl, Ta, _, _, _, rfl, rfl, SqT.of e10a, at0, _, rfl, Ta, _, _, _, rfl, rfl, SqT.of e10a, at1, one, a0, a1, rfl, na, at26, ab26, one9.same z10, fun H11 z11 => ⟨true, rfl, iteF ?_⟩⟩
    have z911 := z10.trans z11
    have e11b := z911 _ _ e9b
    refine ⟨_, rfl, _, rfl, Tb, _, _, _, rfl, rfl, SqT.of e11b, bt0, whl, b0, 1, rfl, by decide, bt26, by decide, h9.same z911, fun H12 z12 => ⟨true, rfl, iteF ?_⟩⟩
    have z912 := z911.trans z12
    have e12a := z912 _ _ e9a
    have e12b := z912 _ _ e9b
    refine ⟨_, rfl, _, rfl, _, rfl, _, rfl, Ta, Tb, one, _, a0, a1, b0, b1, rfl, e12a, e12b, na, nb, sa0, sa1, sb0, sb1, one9.same z912, .inl ⟨oth, rfl, oth9.same z912⟩, fun H13 z13 => ⟨true, rfl, iteF ?_⟩⟩
    have z913 := z912.trans z13
    have e13b := z913 _ _ e9b
    refine ⟨_, rfl, _, rfl, Tb, _, _, _, rfl, rfl, SqT.of e13b, bt0, (by show 2 ≤ sizeLine; decide), fun Tc nTc => ?_⟩
    have z14 := upd_new (o := .tup [.int b0, .int 1]) nTc
    have hTc : upd H13 Tc (.tup [.int b0, .int 1]) Tc = some (.tup [.int b0, .int 1]) := upd_same
    generalize upd H13 Tc (.tup [V.int b0, .int 1]) = H14 at z14 hTc ⊢
    have z914 := z913.trans z14
    have e14a := z914 _ _ e9a
    have e14b := z914 _ _ e9b
    refine ⟨_, rfl, _, rfl, Tb, _, _, _, rfl, rfl, SqT.of e14b, bt0, Ta, Tc, one, _, a0, a1, b0, 1, rfl, e14a, hTc, na, by decide, sa0, sa1, sb0, Sm.one (by decide), one9.same z914, .inr ⟨by rw [o1], o2⟩, fun H15 z15 => ⟨true, rfl, iteF ?_⟩⟩
    have z915 := z914.trans z15
    have t15 : TubAt H15 p (35 * (i + 1)) := (t6'.same z69).same z915
    have tb15 : Tabs T H15 := (tb6.ext z69).ext z915
    refine ⟨(by show 1 ≤ sizeLine; decide), fun A1 nA1 => ⟨(by show 2 ≤ sizeLine; decide), fun A2 nA2 => fun A3 nA3 => ⟨(by show 6 ≤ sizeLine; decide), fun A4 nA4 => ?_⟩⟩⟩
    have y1 := upd_new (o := .lst [.int 1]) nA1
    have y2 := upd_new (o := .tup [.int 1, .int 2]) nA2
    have y3 := upd_new (o := .dK []) nA3
    have y4 := upd_new (o := .lst [.non, .bl true, .str (Str.ofString "1/2"), .ref A1, .ref A2, .ref A3]) nA4
    have q1 : Odd (upd H15 A1 (.lst [.int 1])) (.ref A1) "list" := .lst upd_same
    have q2 : Odd (upd (upd H15 A1 (.lst [.int 1])) A2 (.tup [.int 1, .int 2])) (.ref A2) "tuple" := .tup upd_same
    have q3 : Odd (upd (upd (upd H15 A1 (.lst [.int 1])) A2 (.tup [.int 1, .int 2])) A3 (.dK [])) (.ref A3) "dict" := .dK upd_same
    have hA4 : (upd (upd (upd (upd H15 A1 (.lst [.int 1])) A2 (.tup [.int 1, .int 2])) A3 (.dK [])) A4 (.lst [.non, .bl true, .str (Str.ofString "1/2"), .ref A1, .ref A2, .ref A3])) A4 = some (.lst [.non, .bl true, .str (Str.ofString "1/2"), .ref A1, .ref A2, .ref A3]) := upd_same
    have q1' := q1.same ((y2.trans y3).trans y4)
    have q2' := q2.same (y3.trans y4)
    have q3' := q3.same y4
    have y14 := ((y1.trans y2).trans y3).trans y4
    generalize (upd (upd (upd (upd H15 A1 (.lst [V.int 1])) A2 (.tup [.int 1, .int 2])) A3 (.dK [])) A4 (.lst [.non, .bl true, .str (Str.ofString "1/2"), .ref A1, .ref A2, .ref A3])) = H16 at hA4 q1' q2' q3' y14 ⊢
    obtain ⟨odd, ty, eo, ho⟩ : ∃ v ty, atI [V.non, .bl true, .str (Str.ofString "1/2"), .ref A1, .ref A2, .ref A3] spot = some v ∧ Odd H16 v ty := by
      have z : spot = 0 ∨ spot = 1 ∨ spot = 2 ∨ spot = 3 ∨ spot = 4 ∨ spot = 5 := by omega
      rcases z with rfl | rfl | rfl | rfl | rfl | rfl
      · exact ⟨_, _, atI_nat (j := 0) rfl, .non⟩
      · exact ⟨_, _, atI_nat (j := 1) rfl, .bl true⟩
      · exact ⟨_, _, atI_nat (j := 2) rfl, .str _⟩
      · exact ⟨_, _, atI_nat (j := 3) rfl, q1'⟩
      · exact ⟨_, _, atI_nat (j := 4) rfl, q2'⟩
      · exact ⟨_, _, atI_nat (j := 5) rfl, q3'⟩
    have z916 := z915.trans y14
    refine ⟨_, rfl, A4, _, _, odd, rfl, rfl, SqL.of hA4, eo, ?_⟩
    have yb : rB a0 a1 ≠ 0 := by have := rB_pos (t := a0) na; omega
    refine ⟨_, rfl, _, rfl, one, odd, ty, _, _, rfl, one9.same z916, yb, sa0.rT na, sa1.rB na, ho, tb15.ext y14, fun H17 e17 tb17 => ⟨true, rfl, iteF ?_⟩⟩
    have e17b := e17 _ _ (z916 _ _ e9b) (fun _ z => nomatch z)
    refine ⟨rfl, _, rfl, Tb, _, _, _, rfl, rfl, SqT.of e17b, bt0, .int b0, rfl, .inl ⟨b0, 1, .inr ⟨rfl, rfl⟩, sb0.mono (by decide), fun pr H18 z18 hpr => ?_⟩⟩
    have e18b := z18 _ _ e17b
    refine ⟨_, rfl, Tb, _, _, _, rfl, rfl, SqT.of e18b, bt0, pr, b0, 1, rfl, by decide, sb0.mono (by decide), Sm.one (by decide), (by rw [o1, o2]; exact hpr), fun H19 z19 => ⟨true, rfl, iteF ?_⟩⟩
    exact ⟨(tb17.ext z18).ext z19, (((t15.same y14).ext e17).same z18).same z19, _, _, _, _, _, _, _, _, rfl⟩
  · rintro σ H2 ⟨_, _, _, _, _, _, _, _, _, _, rfl⟩
    exact q H2
end
end K1

/-! The facts of the opened module, and what they give. -/
namespace K1
open PySem PySem.Spec PyProof.Rows L2 LamX SX

theorem propB_ok {K : PySem.W.Frag} {m : Str} (h : propB K m = true) : PropOf K (rC K) m (He.ma K (rC K) m) (gP K m) := by
  obtain ⟨h1, h⟩ := He.ba h
  obtain ⟨h2, h⟩ := He.ba h
  obtain ⟨h3, h4⟩ := He.ba h
  refine ⟨He.eqO_ok h1, He.eqO_ok h2, of_decide_eq_true h3, ?_⟩
  unfold gP
  split at h4
  · rename_i f r e
    exact ⟨r, by rw [e]⟩
  · cases h4
theorem ownB_ok {K : PySem.W.Frag} {m : Str} (h : ownB K m = true) : OwnM K (rC K) m (He.ma K (rC K) m) := ⟨He.eqO_ok (He.ba h).1, (He.ba h).2⟩
theorem opB_ok {K : PySem.W.Frag} {op : Operator} {T : String} (h : opB K op T = true) : OpT K (rC K) op T := by
  obtain ⟨h1, h⟩ := He.ba h
  obtain ⟨h2, h3⟩ := He.ba h
  obtain ⟨a, ha⟩ := Option.isSome_iff_exists.mp h1
  obtain ⟨b, hb⟩ := Option.isSome_iff_exists.mp h2
  exact ⟨a, b, ha, hb, of_decide_eq_true h3⟩
theorem mroB_ok {C : Addr} {l : List Value} (h : mroB C l = true) : ∃ bm, l = .ref C :: bm ∧ PySem.HandSPX.refsVE bm = true := by
  unfold mroB at h
  split at h
  · rename_i c bm
    obtain ⟨h1, h2⟩ := He.ba h
    exact ⟨bm, by rw [of_decide_eq_true h1], h2⟩
  · cases h
theorem oexB_ok {K : PySem.W.Frag} {C : Addr} (h : oexB K C = true) :
    ∃ nm q N bs bm sn sub ab col dd k0 k1 k2 k3 k5, K.lookup C = some (excClassObj nm q C N bs bm true sn sub ab col dd k0 k1 k2 k3 k5 "ValueError.__new__") ∧ PySem.HandSPX.refsVE bm = true := by
  unfold oexB at h
  cases q : K.lookup C with
  | none => rw [q] at h; cases h
  | some o =>
    obtain ⟨oc, od, dt, sl⟩ := o
    rw [q] at h
    cases oc with
    | type t =>
      cases dt with
      | cls cd =>
        have h' : (t == "type" && ((match sl.toList with
          | [_, _, _, _, some (.builtin n), _] => n == "ValueError.__new__"
          | _ => false) && (!cd.hasDel && (cd.hasDict && mroB C cd.mro)))) = true := h
        obtain ⟨a1, h'⟩ := He.ba h'
        obtain ⟨a2, h'⟩ := He.ba h'
        obtain ⟨a3, h'⟩ := He.ba h'
        obtain ⟨a4, a5⟩ := He.ba h'
        have a1 := eq_of_beq a1
        subst a1
        split at a2
        · rename_i k0 k1 k2 k3 n k5 hs
          have a2 := eq_of_beq a2
          subst a2
          have hsl : sl = #[k0, k1, k2, k3, some (.builtin "ValueError.__new__"), k5] := by
            obtain ⟨l⟩ := sl
            simp only at hs
            rw [hs]
          subst hsl
          obtain ⟨nm, bs, mro, ns, qn, hd, sn, sub, ab, col, del⟩ := cd
          simp only [Bool.not_eq_true'] at a3 a4
          obtain ⟨bm, e5, a6⟩ := mroB_ok a5
          simp only at e5
          subst a3 a4 e5
          exact ⟨nm, qn, ns, bs, bm, sn, sub, ab, col, od, k0, k1, k2, k3, k5, rfl, a6⟩
        · cases a2
      | _ => cases h
    | _ => cases h
/-- all that is asked for, but the defs and the table -/
structure Facts (K : PySem.W.Frag) : Prop where
  free_ : (freeNames.all (fun x => He.eqO (PySem.W.nsIn K mainGlobals x) (some none))) = true
  gcd_ : (He.eqO (PySem.W.nsIn K mainGlobals "gcd") (some (some (.builtin "math.gcd")))) = true
  glo_ : (gloNames.all (fun x => He.eqO (PySem.W.nsIn K mainGlobals x) (some (some (.ref (He.ga K x)))))) = true
  dig_ : ((He.Fa.str "DIGITS" "0123456789").ok K) = true
  let_ : ((He.Fa.str "LETTERS" "abcdefghijklmnopqrstuvwxyz").ok K) = true
  d60_ : ((He.Fa.int "MOST_DIGITS" 60).ok K) = true
  s12_ : ((He.Fa.int "MOST_SIGNS" 12).ok K) = true
  cls_ : ((He.Fa.cls "Ratio").ok K) = true
  nT_ : ((He.Fa.noat "Ratio" "top").ok K) = true
  nB_ : ((He.Fa.noat "Ratio" "bottom").ok K) = true
  mkr_ : ((He.Fa.mkr "Ratio").ok K) = true
  ha_ : (He.eqO (PySem.W.findIn K (.ref (rC K)) "__class__") (some (some (.builtin "object.__class__")))) = true
  hn_ : (He.eqO (PySem.W.specialIn K (.builtin "object.__class__") "__get__") (some (some (.builtin "getset_descriptor.__get__")))) = true
  ht_ : (decide (PySem.W.takesIn K (.builtin "object.__class__") = some true)) = true
  hm_ : (decide (PySem.W.mroIn K (rC K) (.type "object") = some true)) = true
  me_ : (decide (PySem.W.kitOne K (.ref (rC K)) (.ref (rC K)) = some true)) = true
  noI_ : (decide (PySem.W.kitOne K (.ref (rC K)) (.type "int") = some false)) = true
  noB_ : (decide (PySem.W.kitOne K (.ref (rC K)) (.type "bool") = some false)) = true
  kits_ : (("int" :: kinds6).all (fun T => decide (PySem.W.kitOne K (.type T) (.ref (rC K)) = some false))) = true
  kA_ : (decide (PySem.W.kitAny K (.ref (rC K)) [.type "list", .type "tuple"] = some false)) = true
  meth_ : ((["over", "compared", "is_below"] : List Str).all (fun m => (He.Fa.meth "Ratio" m).ok K)) = true
  own_ : ((["__add__", "__sub__", "__mul__", "__neg__", "__abs__", "__bool__", "__eq__", "__str__", "__repr__"] : List Str).all (ownB K)) = true
  sf_ : (PySem.W.selfFirst K (rC K)) = true
  nr_ : ([Operator.Add, Operator.Sub, Operator.Mult].all (fun op => He.eqO (PySem.W.findIn K (.ref (rC K)) (dunderR op.info.2)) (some none))) = true
  ops_ : ([Operator.Add, Operator.Sub, Operator.Mult].all (fun op => ("int" :: kinds6).all (opB K op))) = true
  nf_ : (("int" :: kinds6).all (fun T => PySem.W.notFirst K (rC K) (.type T))) = true
  nfo_ : (PySem.W.notFirst K (rC K) (.ref (rC K))) = true
  props_ : ((["sign", "is_whole"] : List Str).all (propB K)) = true
  rd_ : (PySem.W.readsIn K (rC K) (.type "type")) = true
  rga_ : (He.eqO (PySem.W.specialIn K (.ref (rC K)) "__getattribute__") (some (some (.builtin "type.__getattribute__")))) = true
  cm_ : (He5.wrapB K (rC K) "classmethod" "classmethod.__get__" "read") = true
  cf_ : (PySem.W.fnIn K (He5.wf K (rC K) "classmethod" "read")) = true
  sm_ : (He5.wrapB K (rC K) "staticmethod" "staticmethod.__get__" "of") = true
  bo_ : (oexB K (bC K)) = true
  bs_ : (He.eqO (PySem.W.findIn K (.ref (bC K)) "__setattr__") (some (some (.builtin "object.__setattr__")))) = true
  bt_ : (decide (PySem.W.typeIn K (.ref (bC K)) = some (.type "type"))) = true
  bk_ : (PySem.W.keepIn K (.ref (bC K))) = true
  bx_ : (xfB K (bC K)) = true
  bn_ : (He.eqO (PySem.W.findIn K (.ref (bC K)) "part") (some none)) = true
  be_ : (decide (PySem.W.exmOne K (.ref (bC K)) (.ref (bC K)) = some true)) = true
  bi_ : (He.eqO (PySem.W.findIn K (.ref (bC K)) "__init__") (some (some (.ref (He.ma K (bC K) "__init__"))))) = true
  bj_ : (decide (PySem.W.typeIn K (.ref (He.ma K (bC K) "__init__")) = some (.type "function"))) = true
theorem facts_of {K : PySem.W.Frag} (h0 : factB0 K = true) (h1 : factB1 K = true) (h2 : factB2 K = true) (h3 : factB3 K = true) (h4 : factB4 K = true) (h5 : factB5 K = true) : Facts K := by
  obtain ⟨ffree, h0⟩ := He.ba h0
  obtain ⟨fgcd, h0⟩ := He.ba h0
  obtain ⟨fglo, h0⟩ := He.ba h0
  obtain ⟨fdig, h0⟩ := He.ba h0
  obtain ⟨flet, h0⟩ := He.ba h0
  obtain ⟨fd60, h0⟩ := He.ba h0
  obtain ⟨fs12, h0⟩ := He.ba h0
  have fcls := h0
  obtain ⟨fnT, h1⟩ := He.ba h1
  obtain ⟨fnB, h1⟩ := He.ba h1
  obtain ⟨fmkr, h1⟩ := He.ba h1
  obtain ⟨fha, h1⟩ := He.ba h1
  obtain ⟨fhn, h1⟩ := He.ba h1
  obtain ⟨fht, h1⟩ := He.ba h1
  obtain ⟨fhm, h1⟩ := He.ba h1
  have fme := h1
  obtain ⟨fnoI, h2⟩ := He.ba h2
  obtain ⟨fnoB, h2⟩ := He.ba h2
  obtain ⟨fkits, h2⟩ := He.ba h2
  obtain ⟨fkA, h2⟩ := He.ba h2
  obtain ⟨fmeth, h2⟩ := He.ba h2
  obtain ⟨fown, h2⟩ := He.ba h2
  obtain ⟨fsf, h2⟩ := He.ba h2
  have fnr := h2
  obtain ⟨fops, h3⟩ := He.ba h3
  obtain ⟨fnf, h3⟩ := He.ba h3
  obtain ⟨fnfo, h3⟩ := He.ba h3
  obtain ⟨fprops, h3⟩ := He.ba h3
  obtain ⟨frd, h3⟩ := He.ba h3
  obtain ⟨frga, h3⟩ := He.ba h3
  obtain ⟨fcm, h3⟩ := He.ba h3
  have fcf := h3
  obtain ⟨fsm, h4⟩ := He.ba h4
  obtain ⟨fbo, h4⟩ := He.ba h4
  obtain ⟨fbs, h4⟩ := He.ba h4
  obtain ⟨fbt, h4⟩ := He.ba h4
  obtain ⟨fbk, h4⟩ := He.ba h4
  obtain ⟨fbx, h4⟩ := He.ba h4
  obtain ⟨fbn, h4⟩ := He.ba h4
  have fbe := h4
  obtain ⟨fbi, h5⟩ := He.ba h5
  have fbj := h5
  exact ⟨ffree, fgcd, fglo, fdig, flet, fd60, fs12, fcls, fnT, fnB, fmkr, fha, fhn, fht, fhm, fme, fnoI, fnoB, fkits, fkA, fmeth, fown, fsf, fnr, fops, fnf, fnfo, fprops, frd, frga, fcm, fcf, fsm, fbo, fbs, fbt, fbk, fbx, fbn, fbe, fbi, fbj⟩
end K1

namespace K1
open PySem PySem.Spec PyProof.Rows L2 LamX SX
section
variable {P : Program} {w : World} {K : PySem.W.Frag} {mg : Str → Option Value} {base : Heap}
theorem law_in (X : K.In base) (N : base.Ns mainGlobals mg) (fa : Facts K) (sd : He5.SaysA [] fns K) (TB : TabB base mg (eC K) (eT K)) :
    ∃ fd, DefAt K "law" "law" sLaw (He.ga K "law") fd ∧ FnOk P w K mg base CX0 13 (He.ga K "law") fd ["_law_script"] (spLaw K [(eT K, qLam)]) := by
  have fr : ∀ x ∈ freeNames, mg x = none := fun x hx => PySem.W.mg_none_of X N (He.eqO_ok (List.all_eq_true.mp fa.free_ x hx))
  have gl : ∀ x ∈ gloNames, mg x = some (.ref (He.ga K x)) := fun x hx => PySem.W.mg_of X N (He.eqO_ok (List.all_eq_true.mp fa.glo_ x hx))
  have G : Glob mg := ⟨fr _ (by simp [freeNames]), fr _ (by simp [freeNames]), fr _ (by simp [freeNames]), fr _ (by simp [freeNames]), fr _ (by simp [freeNames]), fr _ (by simp [freeNames]), fr _ (by simp [freeNames]), fr _ (by simp [freeNames]), fr _ (by simp [freeNames]), fr _ (by simp [freeNames]), fr _ (by simp [freeNames]), PySem.W.mg_of X N (He.eqO_ok fa.gcd_)⟩
  obtain ⟨t1, c1⟩ := He.str_ok X N fa.dig_
  obtain ⟨t2, c2⟩ := He.str_ok X N fa.let_
  obtain ⟨t3, c3⟩ := He.int_ok X N fa.d60_
  obtain ⟨t4, c4⟩ := He.int_ok X N fa.s12_
  have CO : Consts mg := ⟨⟨_, c1, ⟨_, rfl⟩⟩, ⟨_, c2, ⟨_, rfl⟩⟩, ⟨_, c3, ⟨_, rfl⟩⟩, ⟨_, c4, ⟨_, rfl⟩⟩⟩
  have kits : ∀ T ∈ "int" :: kinds6, PySem.W.kitOne K (.type T) (.ref (rC K)) = some false := fun T hT => of_decide_eq_true (List.all_eq_true.mp fa.kits_ T hT)
  have R : RatF K (rC K) := ⟨He.cls_ok fa.cls_, He.noat_ok fa.nT_, He.noat_ok fa.nB_, He.eqO_ok fa.ha_, He.eqO_ok fa.hn_, of_decide_eq_true fa.ht_, of_decide_eq_true fa.hm_, of_decide_eq_true fa.me_, of_decide_eq_true fa.noI_, of_decide_eq_true fa.noB_, kits _ (.head _), fun T hT => kits T (.tail _ hT)⟩
  have gR : mg "Ratio" = some (.ref (rC K)) := gl _ (by simp [gloNames])
  have EF : EqF K (rC K) := ⟨fa.nfo_, List.all_eq_true.mp fa.nf_ _ (.head _), fun T hT => List.all_eq_true.mp fa.nf_ T (.tail _ hT)⟩
  have xf := xfB_ok fa.bx_
  obtain ⟨d1, F1⟩ := sd.def_ 1
  have BR : BadR P w K mg base (bC K) := ⟨⟨gl _ (by simp [gloNames]), xf, He.eqO_ok fa.bn_, of_decide_eq_true fa.be_⟩, ⟨oexB_ok fa.bo_, He.eqO_ok fa.bs_, xf.exC, of_decide_eq_true fa.bt_, fa.bk_⟩, ⟨_, d1, He.eqO_ok fa.bi_, of_decide_eq_true fa.bj_, F1⟩⟩
  obtain ⟨disuinteger, Fisuinteger⟩ := sd.def_ 18
  replace Fisuinteger : DefAt K "is_integer" "is_integer" sIsInt (He.ga K "is_integer") disuinteger := Fisuinteger
  have bisuinteger : Binds K disuinteger ["value"] [] := Fisuinteger.bindsN fun _ _ _ _ _ _ us hl => match us, hl with | [_], _ => rfl
  have HI : HasInt P w K mg base := ⟨⟨_, disuinteger, gl _ (by simp [gloNames]), Fisuinteger.kp, bisuinteger, ok_isInt G Fisuinteger⟩⟩
  obtain ⟨d0, F0⟩ := sd.def_ 0
  replace F0 : FunD K "__init__" "Ratio.__init__" (defArgs sRInit) (defBody sRInit) (defScope sRInit) [.int 1] [] (He.ma K (rC K) "__init__") d0 := F0
  have okI : FnOk P w K mg base (L2.CX P w) 3 (He.ma K (rC K) "__init__") d0 ["self", "top", "bottom"] (spRI K (rC K) (bC K)) := ok_rinit G R BR HI F0
  obtain ⟨ds0, v0, bi0⟩ : ∃ ds, Vals [] ds ∧ Binds K d0 ["self", "top", "bottom"] ds := F0.binds1 3 1 (List.cons_ne_nil _ _) rfl fun T kV doc pm an cdv ct us its hu hi => match us, its, hu, hi with
    | [_, _, _], [_], _, _ => ⟨_, rfl, rfl⟩
  obtain ⟨ds1, v1, bi1⟩ : ∃ ds, Vals [.int 1] ds ∧ Binds K d0 ["self", "top", "bottom"] ds := F0.binds1 2 0 (List.cons_ne_nil _ _) rfl fun T kV doc pm an cdv ct us its hu hi => match us, its, hu, hi with
    | [_, _], [_], _, _ => ⟨_, rfl, rfl⟩
  cases v0
  have MR : MkR P w K mg base (rC K) (bC K) := ⟨gR, _, d0, ds1, He.mkr_ok fa.mkr_, okI, bi0, v1, bi1⟩
  obtain ⟨duright, Furight⟩ := sd.def_ 25
  replace Furight : DefAt K "_right" "_right" sRight (He.ga K "_right") duright := Furight
  have buright : Binds K duright ["other"] [] := Furight.bindsN fun _ _ _ _ _ _ us hl => match us, hl with | [_], _ => rfl
  have HR : HasRight P w K mg base (rC K) (bC K) := ⟨⟨_, duright, gl _ (by simp [gloNames]), Furight.kp, buright, ok_right G R BR HI MR Furight⟩⟩
  obtain ⟨disuratio, Fisuratio⟩ := sd.def_ 26
  replace Fisuratio : DefAt K "is_ratio" "is_ratio" sIsRatio (He.ga K "is_ratio") disuratio := Fisuratio
  have bisuratio : Binds K disuratio ["value"] [] := Fisuratio.bindsN fun _ _ _ _ _ _ us hl => match us, hl with | [_], _ => rfl
  have HQ : HasIsR P w K mg base (rC K) := ⟨⟨_, disuratio, gl _ (by simp [gloNames]), Fisuratio.kp, bisuratio, ok_isR G R HI gR Fisuratio⟩⟩
  have CR : ClX.CRead K (rC K) (.type "type") := ⟨fa.rd_, He.eqO_ok fa.rga_⟩
  obtain ⟨d5, F5⟩ := sd.def_ 5
  replace F5 : DefAt K "of" "Ratio.of" sOf (He5.wf K (rC K) "staticmethod" "of") d5 := F5
  have SM : SMet K (rC K) "of" (He5.wf K (rC K) "staticmethod" "of") := ⟨⟨_, (He5.wrapB_ok fa.sm_).1, (He5.wrapB_ok fa.sm_).2⟩, F5.kp⟩
  have HF : HasOf P w K mg base (rC K) (bC K) := ⟨gR, CR, ⟨_, d5, SM, F5.bindsN fun _ _ _ _ _ _ us hl => match us, hl with | [_], _ => rfl, ok_of BR HR HQ F5⟩⟩
  obtain ⟨disulisted, Fisulisted⟩ := sd.def_ 21
  replace Fisulisted : DefAt K "is_listed" "is_listed" sIsListed (He.ga K "is_listed") disulisted := Fisulisted
  have bisulisted : Binds K disulisted ["value"] [] := Fisulisted.bindsN fun _ _ _ _ _ _ us hl => match us, hl with | [_], _ => rfl
  have HLi : HasListed P w K mg base := ⟨⟨_, disulisted, gl _ (by simp [gloNames]), Fisulisted.kp, bisulisted, ok_listed G Fisulisted⟩⟩
  obtain ⟨duareuratios, Fuareuratios⟩ := sd.def_ 30
  replace Fuareuratios : DefAt K "_are_ratios" "_are_ratios" sAreRatios (He.ga K "_are_ratios") duareuratios := Fuareuratios
  have buareuratios : Binds K duareuratios ["value"] [] := Fuareuratios.bindsN fun _ _ _ _ _ _ us hl => match us, hl with | [_], _ => rfl
  have HAr : HasAre P w K mg base (rC K) := ⟨⟨_, duareuratios, gl _ (by simp [gloNames]), Fuareuratios.kp, buareuratios, ok_are G R HLi HQ Fuareuratios⟩⟩
  obtain ⟨dusomeuratios, Fusomeuratios⟩ := sd.def_ 31
  replace Fusomeuratios : DefAt K "_some_ratios" "_some_ratios" sSomeRatios (He.ga K "_some_ratios") dusomeuratios := Fusomeuratios
  have busomeuratios : Binds K dusomeuratios ["ratios"] [] := Fusomeuratios.bindsN fun _ _ _ _ _ _ us hl => match us, hl with | [_], _ => rfl
  have HSo : HasSome P w K mg base (rC K) (bC K) := ⟨⟨_, dusomeuratios, gl _ (by simp [gloNames]), Fusomeuratios.kp, busomeuratios, ok_some G BR HAr Fusomeuratios⟩⟩
  obtain ⟨muuadduu, Muuadduu⟩ := sd.def_ 6
  replace Muuadduu : DefAt K "__add__" "Ratio.__add__" sAdd (He.ma K (rC K) "__add__") muuadduu := Muuadduu
  have quuadduu : Binds K muuadduu ["self", "other"] [] := Muuadduu.bindsN fun _ _ _ _ _ _ us hl => match us, hl with | [_, _], _ => rfl
  obtain ⟨muusubuu, Muusubuu⟩ := sd.def_ 7
  replace Muusubuu : DefAt K "__sub__" "Ratio.__sub__" sSub (He.ma K (rC K) "__sub__") muusubuu := Muusubuu
  have quusubuu : Binds K muusubuu ["self", "other"] [] := Muusubuu.bindsN fun _ _ _ _ _ _ us hl => match us, hl with | [_, _], _ => rfl
  obtain ⟨muumuluu, Muumuluu⟩ := sd.def_ 8
  replace Muumuluu : DefAt K "__mul__" "Ratio.__mul__" sMul (He.ma K (rC K) "__mul__") muumuluu := Muumuluu
  have quumuluu : Binds K muumuluu ["self", "other"] [] := Muumuluu.bindsN fun _ _ _ _ _ _ us hl => match us, hl with | [_, _], _ => rfl
  obtain ⟨muuneguu, Muuneguu⟩ := sd.def_ 9
  replace Muuneguu : DefAt K "__neg__" "Ratio.__neg__" sNeg (He.ma K (rC K) "__neg__") muuneguu := Muuneguu
  have quuneguu : Binds K muuneguu ["self"] [] := Muuneguu.bindsN fun _ _ _ _ _ _ us hl => match us, hl with | [_], _ => rfl
  obtain ⟨muuabsuu, Muuabsuu⟩ := sd.def_ 10
  replace Muuabsuu : DefAt K "__abs__" "Ratio.__abs__" sAbs (He.ma K (rC K) "__abs__") muuabsuu := Muuabsuu
  have quuabsuu : Binds K muuabsuu ["self"] [] := Muuabsuu.bindsN fun _ _ _ _ _ _ us hl => match us, hl with | [_], _ => rfl
  obtain ⟨muubooluu, Muubooluu⟩ := sd.def_ 11
  replace Muubooluu : DefAt K "__bool__" "Ratio.__bool__" sBool (He.ma K (rC K) "__bool__") muubooluu := Muubooluu
  have quubooluu : Binds K muubooluu ["self"] [] := Muubooluu.bindsN fun _ _ _ _ _ _ us hl => match us, hl with | [_], _ => rfl
  obtain ⟨muuequu, Muuequu⟩ := sd.def_ 12
  replace Muuequu : DefAt K "__eq__" "Ratio.__eq__" sEq (He.ma K (rC K) "__eq__") muuequu := Muuequu
  have quuequu : Binds K muuequu ["self", "other"] [] := Muuequu.bindsN fun _ _ _ _ _ _ us hl => match us, hl with | [_, _], _ => rfl
  obtain ⟨muustruu, Muustruu⟩ := sd.def_ 13
  replace Muustruu : DefAt K "__str__" "Ratio.__str__" sStr (He.ma K (rC K) "__str__") muustruu := Muustruu
  have quustruu : Binds K muustruu ["self"] [] := Muustruu.bindsN fun _ _ _ _ _ _ us hl => match us, hl with | [_], _ => rfl
  obtain ⟨muurepruu, Muurepruu⟩ := sd.def_ 14
  replace Muurepruu : DefAt K "__repr__" "Ratio.__repr__" sRepr (He.ma K (rC K) "__repr__") muurepruu := Muurepruu
  have quurepruu : Binds K muurepruu ["self"] [] := Muurepruu.bindsN fun _ _ _ _ _ _ us hl => match us, hl with | [_], _ => rfl
  obtain ⟨mover, Mover⟩ := sd.def_ 15
  replace Mover : DefAt K "over" "Ratio.over" sOver (He.ma K (rC K) "over") mover := Mover
  have qover : Binds K mover ["self", "other"] [] := Mover.bindsN fun _ _ _ _ _ _ us hl => match us, hl with | [_, _], _ => rfl
  obtain ⟨mcompared, Mcompared⟩ := sd.def_ 16
  replace Mcompared : DefAt K "compared" "Ratio.compared" sCompared (He.ma K (rC K) "compared") mcompared := Mcompared
  have qcompared : Binds K mcompared ["self", "other"] [] := Mcompared.bindsN fun _ _ _ _ _ _ us hl => match us, hl with | [_, _], _ => rfl
  obtain ⟨misubelow, Misubelow⟩ := sd.def_ 17
  replace Misubelow : DefAt K "is_below" "Ratio.is_below" sIsBelow (He.ma K (rC K) "is_below") misubelow := Misubelow
  have qisubelow : Binds K misubelow ["self", "other"] [] := Misubelow.bindsN fun _ _ _ _ _ _ us hl => match us, hl with | [_, _], _ => rfl
  have ow : ∀ m ∈ (["__add__", "__sub__", "__mul__", "__neg__", "__abs__", "__bool__", "__eq__", "__str__", "__repr__"] : List Str), OwnM K (rC K) m (He.ma K (rC K) m) := fun m hm => ownB_ok (List.all_eq_true.mp fa.own_ m hm)
  have me : ∀ m ∈ (["over", "compared", "is_below"] : List Str), Meth K (rC K) m (He.ma K (rC K) m) := fun m hm => He.meth_ok (List.all_eq_true.mp fa.meth_ m hm)
  have nr : ∀ op ∈ [Operator.Add, Operator.Sub, Operator.Mult], PySem.W.findIn K (.ref (rC K)) (dunderR op.info.2) = some none := fun op h => He.eqO_ok (List.all_eq_true.mp fa.nr_ op h)
  have ot : ∀ op ∈ [Operator.Add, Operator.Sub, Operator.Mult], ∀ T ∈ "int" :: kinds6, OpT K (rC K) op T := fun op h T hT => opB_ok (List.all_eq_true.mp (List.all_eq_true.mp fa.ops_ op h) T hT)
  have HA : HasOp P w K mg base (rC K) .Add (spAddR (rC K) (bC K)) := ⟨⟨_, muuadduu, (show PySem.dunder Operator.Add.info.2 = "__add__" by decide +kernel) ▸ ow "__add__" (by simp), quuadduu, ok_add R HR MR Muuadduu⟩, fa.sf_, nr _ (by simp), ot _ (by simp)⟩
  have HS : HasOp P w K mg base (rC K) .Sub (spSubR (rC K) (bC K)) := ⟨⟨_, muusubuu, (show PySem.dunder Operator.Sub.info.2 = "__sub__" by decide +kernel) ▸ ow "__sub__" (by simp), quusubuu, ok_sub R HR MR Muusubuu⟩, fa.sf_, nr _ (by simp), ot _ (by simp)⟩
  have HM : HasOp P w K mg base (rC K) .Mult (spMulR (rC K) (bC K)) := ⟨⟨_, muumuluu, (show PySem.dunder Operator.Mult.info.2 = "__mul__" by decide +kernel) ▸ ow "__mul__" (by simp), quumuluu, ok_mul R HR MR Muumuluu⟩, fa.sf_, nr _ (by simp), ot _ (by simp)⟩
  have MO : Mth P w K mg base (rC K) 6 "over" (spOver (rC K) (bC K)) := ⟨_, mover, me _ (by simp), qover, ok_over R BR HR MR Mover⟩
  have okC_ := ok_cmp (P := P) (w := w) (base := base) R HR Mcompared
  have MC : Mth P w K mg base (rC K) 6 "compared" (spCmp (rC K) (bC K) V.int) := ⟨_, mcompared, me _ (by simp), qcompared, okC_⟩
  have okB_ := ok_bel (P := P) (w := w) (mg := mg) (base := base) R (me "compared" (by simp)) okC_ qcompared Misubelow ⟨by decide +kernel, by decide +kernel⟩
  have MB : Mth P w K mg base (rC K) 7 "is_below" (spCmp (rC K) (bC K) fun n => .bl (decide (n < 0))) := ⟨_, misubelow, me _ (by simp), qisubelow, okB_⟩
  have okNg := ok_neg (P := P) (w := w) (base := base) R MR Muuneguu
  have ON : Own P w K mg base (rC K) (L2.CX P w) 5 "__neg__" ["self"] (spUn (rC K) fun t => -t) := ⟨_, muuneguu, ow _ (by simp), quuneguu, okNg⟩
  have OA : Own P w K mg base (rC K) (L2.CX P w) 5 "__abs__" ["self"] (spUn (rC K) fun t => (t.natAbs : Int)) := ⟨_, muuabsuu, ow _ (by simp), quuabsuu, ok_abs G R MR Muuabsuu⟩
  have OB : Own P w K mg base (rC K) CX0 1 "__bool__" ["self"] (spTell (rC K) fun t _ => .bl (t != 0)) := ⟨_, muubooluu, ow _ (by simp), quubooluu, ok_bool G R Muubooluu⟩
  have OE : Own P w K mg base (rC K) CX0 2 "__eq__" ["self", "other"] (spEq K (rC K)) := ⟨_, muuequu, ow _ (by simp), quuequu, ok_eq G R HI gR Muuequu⟩
  have OS : Own P w K mg base (rC K) CX0 1 "__str__" ["self"] (spStr (rC K)) := ⟨_, muustruu, ow _ (by simp), quustruu, ok_str G R Muustruu⟩
  have OR : Own P w K mg base (rC K) CX0 4 "__repr__" ["self"] (spStr (rC K)) := ⟨_, muurepruu, ow _ (by simp), quurepruu, ok_repr G R Muustruu (ow "__str__" (by simp)) Muurepruu⟩
  have pr : ∀ m ∈ (["sign", "is_whole"] : List Str), PropOf K (rC K) m (He.ma K (rC K) m) (gP K m) := fun m hm => propB_ok (List.all_eq_true.mp fa.props_ m hm)
  obtain ⟨d2, F2⟩ := sd.def_ 2
  replace F2 : DefAt K "sign" "Ratio.sign" sSign (gP K "sign") d2 := F2
  have PS_ : Prp P w K mg base (rC K) "sign" (spTell (rC K) fun t _ => .int (sgn t)) := ⟨_, _, d2, pr _ (by simp), F2.bindsN fun _ _ _ _ _ _ us hl => match us, hl with | [_], _ => rfl, ok_sign R F2⟩
  obtain ⟨d3, F3⟩ := sd.def_ 3
  replace F3 : DefAt K "is_whole" "Ratio.is_whole" sWhole (gP K "is_whole") d3 := F3
  have PW_ : Prp P w K mg base (rC K) "is_whole" (spTell (rC K) fun _ b => .bl (decide (b = 1))) := ⟨_, _, d3, pr _ (by simp), F3.bindsN fun _ _ _ _ _ _ us hl => match us, hl with | [_], _ => rfl, ok_whole R F3⟩
  obtain ⟨dadded, Fadded⟩ := sd.def_ 27
  replace Fadded : DefAt K "added" "added" sAdded (He.ga K "added") dadded := Fadded
  have badded : Binds K dadded ["ratios"] [] := Fadded.bindsN fun _ _ _ _ _ _ us hl => match us, hl with | [_], _ => rfl
  have HD : Has P w K mg base (L2.CX P w) 7 "added" ["ratios"] (spAdded K (rC K) (bC K)) := ⟨⟨_, dadded, gl _ (by simp [gloNames]), Fadded.kp, badded, ok_added BR HAr MR HA Fadded⟩⟩
  have HB : HasBel P w K mg base (rC K) (bC K) := ⟨_, misubelow, me _ (by simp), qisubelow, okB_⟩
  have HN : HasNeg P w K mg base (rC K) := ⟨_, muuneguu, ow _ (by simp), quuneguu, okNg⟩
  obtain ⟨dgreatestuof, Fgreatestuof⟩ := sd.def_ 29
  replace Fgreatestuof : DefAt K "greatest_of" "greatest_of" sGreatest (He.ga K "greatest_of") dgreatestuof := Fgreatestuof
  have bgreatestuof : Binds K dgreatestuof ["ratios"] [] := Fgreatestuof.bindsN fun _ _ _ _ _ _ us hl => match us, hl with | [_], _ => rfl
  have okG := ok_great (P := P) (w := w) (base := base) R HSo HF HB Fgreatestuof
  have HGr : HasGreat P w K mg base (rC K) (bC K) := ⟨⟨_, dgreatestuof, gl _ (by simp [gloNames]), Fgreatestuof.kp, bgreatestuof, okG⟩⟩
  have HG : Has P w K mg base (L2.CX P w) 8 "greatest_of" ["ratios"] (spBest K (rC K) (bC K) maxR) := ⟨⟨_, dgreatestuof, gl _ (by simp [gloNames]), Fgreatestuof.kp, bgreatestuof, okG⟩⟩
  obtain ⟨dleastuof, Fleastuof⟩ := sd.def_ 28
  replace Fleastuof : DefAt K "least_of" "least_of" sLeast (He.ga K "least_of") dleastuof := Fleastuof
  have bleastuof : Binds K dleastuof ["ratios"] [] := Fleastuof.bindsN fun _ _ _ _ _ _ us hl => match us, hl with | [_], _ => rfl
  have HL : Has P w K mg base (L2.CX P w) 9 "least_of" ["ratios"] (spBest K (rC K) (bC K) minR) := ⟨⟨_, dleastuof, gl _ (by simp [gloNames]), Fleastuof.kp, bleastuof, ok_least R HSo HF HN HGr Fleastuof⟩⟩
  obtain ⟨dwordsuof, Fwordsuof⟩ := sd.def_ 22
  replace Fwordsuof : DefAt K "words_of" "words_of" sWordsOf (He.ga K "words_of") dwordsuof := Fwordsuof
  have bwordsuof : Binds K dwordsuof ["text"] [] := Fwordsuof.bindsN fun _ _ _ _ _ _ us hl => match us, hl with | [_], _ => rfl
  have HW : HasWords P w K mg base := ⟨⟨_, dwordsuof, gl _ (by simp [gloNames]), Fwordsuof.kp, bwordsuof, ok_words G Fwordsuof⟩⟩
  obtain ⟨dcheckuend, Fcheckuend⟩ := sd.def_ 23
  replace Fcheckuend : DefAt K "check_end" "check_end" sCheckEnd (He.ga K "check_end") dcheckuend := Fcheckuend
  have bcheckuend : Binds K dcheckuend ["words", "at"] [] := Fcheckuend.bindsN fun _ _ _ _ _ _ us hl => match us, hl with | [_, _], _ => rfl
  have HEn : HasEnd P w K mg base := ⟨⟨_, dcheckuend, gl _ (by simp [gloNames]), Fcheckuend.kp, bcheckuend, ok_end G Fcheckuend⟩⟩
  obtain ⟨dintegeruin, Fintegeruin⟩ := sd.def_ 24
  replace Fintegeruin : DefAt K "integer_in" "integer_in" sIntIn (He.ga K "integer_in") dintegeruin := Fintegeruin
  have bintegeruin : Binds K dintegeruin ["word"] [] := Fintegeruin.bindsN fun _ _ _ _ _ _ us hl => match us, hl with | [_], _ => rfl
  have HIn : HasIntIn P w K mg base := ⟨⟨_, dintegeruin, gl _ (by simp [gloNames]), Fintegeruin.kp, bintegeruin, ok_intIn G CO Fintegeruin⟩⟩
  obtain ⟨dratiouin, Fratiouin⟩ := sd.def_ 32
  replace Fratiouin : DefAt K "ratio_in" "ratio_in" sRatioIn (He.ga K "ratio_in") dratiouin := Fratiouin
  have bratiouin : Binds K dratiouin ["word"] [] := Fratiouin.bindsN fun _ _ _ _ _ _ us hl => match us, hl with | [_], _ => rfl
  have HRi : HasRatIn P w K mg base (rC K) := ⟨⟨_, dratiouin, gl _ (by simp [gloNames]), Fratiouin.kp, bratiouin, ok_ratioIn G HIn MR Fratiouin⟩⟩
  obtain ⟨d4, F4⟩ := sd.def_ 4
  replace F4 : DefAt K "read" "Ratio.read" sRead (He5.wf K (rC K) "classmethod" "read") d4 := F4
  have b4 : Binds K d4 ["cls", "text"] [] := F4.bindsN fun _ _ _ _ _ _ us hl => match us, hl with | [_, _], _ => rfl
  have okRd := ok_read (P := P) (w := w) (base := base) HW HEn HRi F4
  have RM : RdM P w K mg base (rC K) := ⟨CR, ⟨_, _, He5.cmet_of fa.cm_ fa.cf_, FnOk.toR okRd b4⟩⟩
  obtain ⟨disuwithin, Fisuwithin⟩ := sd.def_ 19
  replace Fisuwithin : DefAt K "is_within" "is_within" sIsWithin (He.ga K "is_within") disuwithin := Fisuwithin
  have bisuwithin : Binds K disuwithin ["value", "least", "most"] [] := Fisuwithin.bindsN fun _ _ _ _ _ _ us hl => match us, hl with | [_, _, _], _ => rfl
  obtain ⟨disuname, Fisuname⟩ := sd.def_ 20
  replace Fisuname : DefAt K "is_name" "is_name" sIsName (He.ga K "is_name") disuname := Fisuname
  have bisuname : Binds K disuname ["value"] [] := Fisuname.bindsN fun _ _ _ _ _ _ us hl => match us, hl with | [_], _ => rfl
  obtain ⟨dulawutub, Fulawutub⟩ := sd.def_ 33
  replace Fulawutub : DefAt K "_law_tub" "_law_tub" sTub (He.ga K "_law_tub") dulawutub := Fulawutub
  have bulawutub : Binds K dulawutub ["_law_script"] [] := Fulawutub.bindsN fun _ _ _ _ _ _ us hl => match us, hl with | [_], _ => rfl
  obtain ⟨dulawuscoop, Fulawuscoop⟩ := sd.def_ 34
  replace Fulawuscoop : DefAt K "_law_scoop" "_law_scoop" sScoop (He.ga K "_law_scoop") dulawuscoop := Fulawuscoop
  have bulawuscoop : Binds K dulawuscoop ["_law_tub_here", "_law_many"] [] := Fulawuscoop.bindsN fun _ _ _ _ _ _ us hl => match us, hl with | [_, _], _ => rfl
  have HSc : HasScoop P w K mg base := ⟨⟨_, dulawuscoop, gl _ (by simp [gloNames]), Fulawuscoop.kp, bulawuscoop, ok_dip Fulawuscoop⟩⟩
  obtain ⟨dulawutext, Fulawutext⟩ := sd.def_ 35
  replace Fulawutext : DefAt K "_law_text" "_law_text" sText (He.ga K "_law_text") dulawutext := Fulawutext
  have bulawutext : Binds K dulawutext ["_law_tub_here"] [] := Fulawutext.bindsN fun _ _ _ _ _ _ us hl => match us, hl with | [_], _ => rfl
  obtain ⟨dulawuisuname, Fulawuisuname⟩ := sd.def_ 36
  replace Fulawuisuname : DefAt K "_law_is_name" "_law_is_name" sLIsName (He.ga K "_law_is_name") dulawuisuname := Fulawuisuname
  have bulawuisuname : Binds K dulawuisuname ["_law_text_here"] [] := Fulawuisuname.bindsN fun _ _ _ _ _ _ us hl => match us, hl with | [_], _ => rfl
  obtain ⟨dulawupair, Fulawupair⟩ := sd.def_ 38
  replace Fulawupair : DefAt K "_law_pair" "_law_pair" sPair (He.ga K "_law_pair") dulawupair := Fulawupair
  have bulawupair : Binds K dulawupair ["_law_tub_here"] [] := Fulawupair.bindsN fun _ _ _ _ _ _ us hl => match us, hl with | [_], _ => rfl
  obtain ⟨dulawudivisor, Fulawudivisor⟩ := sd.def_ 39
  replace Fulawudivisor : DefAt K "_law_divisor" "_law_divisor" sDivisor (He.ga K "_law_divisor") dulawudivisor := Fulawudivisor
  have bulawudivisor : Binds K dulawudivisor ["_law_one", "_law_other"] [] := Fulawudivisor.bindsN fun _ _ _ _ _ _ us hl => match us, hl with | [_, _], _ => rfl
  have HDv : HasDivisor P w K mg base := ⟨⟨_, dulawudivisor, gl _ (by simp [gloNames]), Fulawudivisor.kp, bulawudivisor, ok_divisor G Fulawudivisor⟩⟩
  obtain ⟨dulawudue, Fulawudue⟩ := sd.def_ 40
  replace Fulawudue : DefAt K "_law_due" "_law_due" sDue (He.ga K "_law_due") dulawudue := Fulawudue
  have bulawudue : Binds K dulawudue ["_law_top", "_law_bottom"] [] := Fulawudue.bindsN fun _ _ _ _ _ _ us hl => match us, hl with | [_, _], _ => rfl
  have HDu : HasDue P w K mg base := ⟨⟨_, dulawudue, gl _ (by simp [gloNames]), Fulawudue.kp, bulawudue, ok_due HDv Fulawudue⟩⟩
  obtain ⟨dulawuis, Fulawuis⟩ := sd.def_ 41
  replace Fulawuis : DefAt K "_law_is" "_law_is" sIs (He.ga K "_law_is") dulawuis := Fulawuis
  have bulawuis : Binds K dulawuis ["_law_ratio", "_law_top", "_law_bottom"] [] := Fulawuis.bindsN fun _ _ _ _ _ _ us hl => match us, hl with | [_, _, _], _ => rfl
  have HIs : Has P w K mg base CX0 3 "_law_is" ["_law_ratio", "_law_top", "_law_bottom"] (spIs (rC K)) := ⟨⟨_, dulawuis, gl _ (by simp [gloNames]), Fulawuis.kp, bulawuis, ok_is G R gR HDu Fulawuis⟩⟩
  obtain ⟨dulawuchecksuright, Fulawuchecksuright⟩ := sd.def_ 37
  replace Fulawuchecksuright : DefAt K "_law_checks_right" "_law_checks_right" sChecks (He.ga K "_law_checks_right") dulawuchecksuright := Fulawuchecksuright
  have bulawuchecksuright : Binds K dulawuchecksuright ["_law_tub_here"] [] := Fulawuchecksuright.bindsN fun _ _ _ _ _ _ us hl => match us, hl with | [_], _ => rfl
  have HC : Has P w K mg base CX0 5 "_law_checks_right" ["_law_tub_here"] spChecks := ⟨⟨_, dulawuchecksuright, gl _ (by simp [gloNames]), Fulawuchecksuright.kp, bulawuchecksuright, ok_checks R HI MR HSc ⟨⟨_, dulawutext, gl _ (by simp [gloNames]), Fulawutext.kp, bulawutext, ok_text G HSc Fulawutext⟩⟩ ⟨⟨_, disuname, gl _ (by simp [gloNames]), Fisuname.kp, bisuname, ok_name G CO Fisuname⟩⟩ ⟨⟨_, dulawuisuname, gl _ (by simp [gloNames]), Fulawuisuname.kp, bulawuisuname, ok_lname G Fulawuisuname⟩⟩ ⟨⟨_, disuwithin, gl _ (by simp [gloNames]), Fisuwithin.kp, bisuwithin, ok_within HI Fisuwithin⟩⟩ Fulawuchecksuright⟩⟩
  obtain ⟨dulawutextsuright, Fulawutextsuright⟩ := sd.def_ 42
  replace Fulawutextsuright : DefAt K "_law_texts_right" "_law_texts_right" sTexts (He.ga K "_law_texts_right") dulawutextsuright := Fulawutextsuright
  have bulawutextsuright : Binds K dulawutextsuright ["_law_ratio", "_law_top", "_law_bottom"] [] := Fulawutextsuright.bindsN fun _ _ _ _ _ _ us hl => match us, hl with | [_, _, _], _ => rfl
  have HX : Has P w K mg base CX0 7 "_law_texts_right" ["_law_ratio", "_law_top", "_law_bottom"] (spTexts (rC K)) := ⟨⟨_, dulawutextsuright, gl _ (by simp [gloNames]), Fulawutextsuright.kp, bulawutextsuright, ok_texts G R gR HDu HIs OS OR OE EF OB ON OA PS_ PW_ RM Fulawutextsuright⟩⟩
  obtain ⟨dulawusumsuright, Fulawusumsuright⟩ := sd.def_ 43
  replace Fulawusumsuright : DefAt K "_law_sums_right" "_law_sums_right" sSums (He.ga K "_law_sums_right") dulawusumsuright := Fulawusumsuright
  have bulawusumsuright : Binds K dulawusumsuright ["_law_a", "_law_b", "_law_one", "_law_other"] [] := Fulawusumsuright.bindsN fun _ _ _ _ _ _ us hl => match us, hl with | [_, _, _, _], _ => rfl
  have HU : Has P w K mg base CX0 10 "_law_sums_right" pSums (spSums (rC K)) := ⟨⟨_, dulawusumsuright, gl _ (by simp [gloNames]), Fulawusumsuright.kp, bulawusumsuright, ok_sums G R HIs OE EF HA HS HM (HA.t _ (.head _)) (HS.t _ (.head _)) (HM.t _ (.head _)) MO MC MB HL HG HD Fulawusumsuright⟩⟩
  obtain ⟨dulawurefused, Fulawurefused⟩ := sd.def_ 44
  replace Fulawurefused : DefAt K "_law_refused" "_law_refused" sRefused (He.ga K "_law_refused") dulawurefused := Fulawurefused
  have bulawurefused : Binds K dulawurefused ["_law_ask", "_law_part"] [] := Fulawurefused.bindsN fun _ _ _ _ _ _ us hl => match us, hl with | [_, _], _ => rfl
  obtain ⟨dulawuerrorsuright, Fulawuerrorsuright⟩ := sd.def_ 45
  replace Fulawuerrorsuright : DefAt K "_law_errors_right" "_law_errors_right" sErrors (He.ga K "_law_errors_right") dulawuerrorsuright := Fulawuerrorsuright
  have bulawuerrorsuright : Binds K dulawuerrorsuright ["_law_one", "_law_odd"] [] := Fulawuerrorsuright.bindsN fun _ _ _ _ _ _ us hl => match us, hl with | [_, _], _ => rfl
  have FC : DefC K "_law_errors_right" "_law_errors_right" sErrors (He.ga K "_law_errors_right") dulawuerrorsuright (eC K) := by
    obtain ⟨oc, od, dV, kV, doc, pm, an, cdv, ct, osl, e, lk, hcd, _, _⟩ := Fulawuerrorsuright.ex
    obtain ⟨c, rfl⟩ := He.codeIn_ref hcd
    have ec : eC K = c := He.codeOf_eq (p := ("_law_errors_right", none)) lk (by rw [e])
    rw [ec]
    exact ⟨oc, od, dV, kV, doc, pm, an, ct, osl, e, lk, hcd⟩
  have HE : Has P w K mg base CX0 12 "_law_errors_right" ["_law_one", "_law_odd"] (spErrs (rC K) (bC K) [(eT K, qLam)]) := ⟨⟨_, dulawuerrorsuright, gl _ (by simp [gloNames]), Fulawuerrorsuright.kp, bulawuerrorsuright, ok_errs G R BR MR HQ HF OE EF HA HS HM (fun T h => HA.t T (.tail _ h)) (fun T h => HS.t T (.tail _ h)) (fun T h => HM.t T (.tail _ h)) MO MC MB HL HG HD (gl _ (by simp [gloNames])) Fulawurefused (of_decide_eq_true fa.kA_) TB (T := [(eT K, qLam)]) (.head _) (fun p hp _ => by simp at hp; rw [hp]) FC⟩⟩
  obtain ⟨dlaw, Flaw⟩ := sd.def_ 46
  replace Flaw : DefAt K "law" "law" sLaw (He.ga K "law") dlaw := Flaw
  have blaw : Binds K dlaw ["_law_script"] [] := Flaw.bindsN fun _ _ _ _ _ _ us hl => match us, hl with | [_], _ => rfl
  exact ⟨dlaw, Flaw, ok_law G MR HF HSc HIs ⟨⟨_, dulawutub, gl _ (by simp [gloNames]), Fulawutub.kp, bulawutub, ok_pail G Fulawutub⟩⟩ ⟨⟨_, dulawupair, gl _ (by simp [gloNames]), Fulawupair.kp, bulawupair, ok_pair HSc Fulawupair⟩⟩ HC HX HU HE Flaw⟩
end
end K1

namespace K1
open PySem PySem.Spec PyProof.Rows L2 LamX
theorem factAll_ok {K : PySem.W.Frag} (h : factAll K = true) : Facts K := by
  obtain ⟨a0, h⟩ := He.ba h
  obtain ⟨a1, h⟩ := He.ba h
  obtain ⟨a2, h⟩ := He.ba h
  obtain ⟨a3, h⟩ := He.ba h
  obtain ⟨a4, a5⟩ := He.ba h
  exact facts_of a0 a1 a2 a3 a4 a5
/-- what the opened module tells, of its objects and of the table -/
def Told1 (h : Heap) : Prop := ∃ K : PySem.W.Frag, K.In h ∧ Facts K ∧ He5.SaysA [] fns K ∧ PySem.W.codeHdIn K (eC K) (eT K) = true ∧ K.lookup (eT K) = none ∧ h.get? (eT K) = some { cls := .none, data := .fields #[] }
theorem told1_of {h : Heap} (e1 : factAll (He.frT h.get? adl) = true) (e2 : He5.obsA [] fns (He.frT h.get? adl) = He5.valA fns) (e3 : tabE h.get? (He.frT h.get? adl) = true) : Told1 h := by
  obtain ⟨h1, h2⟩ := He.ba e3
  refine ⟨_, He.frT_in, factAll_ok e1, e2, h1, ?_⟩
  cases q : h.get? (eT (He.frT h.get? adl)) with
  | none => rw [q] at h2; cases h2
  | some o =>
    rw [q] at h2
    exact ⟨He.frT_none q h2, by rw [He.emptyTab_eq h2]⟩
def hk : PySem.W.Hook where
  α := Bool × He.AlD × Bool
  obs := fun s => (factAll (He.frT s.heap.get? adl), He5.obsA [] fns (He.frT s.heap.get? adl), tabE s.heap.get? (He.frT s.heap.get? adl))
  val := fun _ => (true, He5.valA fns, true)
  says := fun _ h => Told1 h
  of := fun _ _ e => told1_of (congrArg (fun z : Bool × He.AlD × Bool => z.1) e) (congrArg (fun z : Bool × He.AlD × Bool => z.2.1) e) (congrArg (fun z : Bool × He.AlD × Bool => z.2.2) e)
  keeps := fun _ _ _ ⟨K, hK, c1, c2, c3, c4, c5⟩ k => ⟨K, PySem.W.Frag.In.keeps hK k, c1, c2, c3, c4, k _ _ c5⟩
def ob (s : PySem.W.SharedT) : Bool × He.AlD × Bool := (factAll (oF s), He5.obsA [] fns (oF s), tabE (HandSHeadRun.getT s) (oF s))
theorem ob_eq (s : PySem.W.SharedT) : ob s = hk.obs s.abs := by
  have e : HandSHeadRun.getT s = s.abs.heap.get? := funext (HandSHeadRun.getT_eq s)
  unfold ob oF
  rw [e]
  rfl
theorem run (w : World) : HandSHeadRun.RunEqI R (PySem.W.view R.prog [0, 41]) hk ob 40000 loose w := by
  have a1 := runA1 w
  have a2 := runA2 w
  have b0 := runB0 w
  have b1 := runB1 w
  have b2 := runB2 w
  have b3 := runB3 w
  have b4 := runB4 w
  have b5 := runB5 w
  have d := runD w
  have t := runT w
  obtain ⟨x, hx, e1⟩ := Option.map_eq_some_iff.mp a1
  rw [hx] at a2 b0 b1 b2 b3 b4 b5 d t
  have e2 := Option.some.inj a2
  have e3 : factAll (oF x.2) = true := by
    have ab : ∀ {a b : Bool}, a = true → b = true → (a && b) = true := fun x y => by rw [x, y]; rfl
    exact ab (Option.some.inj b0) (ab (Option.some.inj b1) (ab (Option.some.inj b2) (ab (Option.some.inj b3) (ab (Option.some.inj b4) (Option.some.inj b5)))))
  have e4 := Option.some.inj d
  have e5 := Option.some.inj t
  unfold HandSHeadRun.RunEqI
  show (wf w).map _ = _
  rw [hx]
  refine congrArg some (Prod.ext e1 (Prod.ext e2 ?_))
  exact Prod.ext e3 (Prod.ext e4 e5)
/-- the walk's end, with one table -/
theorem walkT {l : PySem.W.OpenLaw} {n k : Nat} {q : Program} {loose : List Str} {XP : (Str → Option Value) → Heap → Prop} {YP : World → Heap → Prop} {d : DefRec} {x : Str}
    (m1 : l.most = some n) (m2 : n ≤ sizeLine) (m3 : d.params.defaults = []) (m4 : Room k callerA)
    (F : ∀ (w : World) (mg : Str → Option Value) (fa : Addr) (h : Heap), YP w h → h.Ns mainGlobals mg → mg d.name = some (.ref fa) →
      ∃ (K : PySem.W.Frag) (fd : FuncData) (sp : Sp) (c T : Addr), K.In h ∧ h.get? T = some { cls := .none, data := .fields #[] } ∧ K.lookup T = none ∧ PySem.W.CodeHd h c T ∧ (∀ (s : Shared) (u : Value), BindsTo s fd ⟨[u], []⟩ [(x, u)]) ∧
        (∀ (H : Hp) (a : Addr) (ns : List Int), ns.length ≤ n → H T = some (.tbl #[]) → SqL K H a (ns.map V.int) → sp [.ref a] H (fun v _ => v = .bl true) fun _ _ _ => False) ∧
        ∀ base : Heap, K.In base → base.Ns mainGlobals mg → TabB base mg c T → FnOk l.prog w K mg base CX0 k fa fd [x] sp) :
    PySem.W.WalkO q loose XP YP l.row.toRowW d [] (fun f vs => PySem.call f vs) := by
  refine Att.attach_call m1 m3 fun w u0 u1 mg mb fa ob pm cd doc aa vs ns GG YY g1 g2 g3 g4 g5 g6 g7 g8 => ?_
  obtain ⟨K, fd, sp, c, T, k1, k2, k3, k4, k5, k6, k7⟩ := F w mg fa _ YY GG.T.g g4
  refine law_callTs (cs := [(c, T)]) k1 GG.T.g GG.T.b GG.T.builtins GG.T.nolimit g8 (fun p hp => ?_) (fun p hp => ?_) (fun p hp => ?_) GG.T.bmain g5 g6 (Nat.le_trans g7 m2) m4 (fun bb b1 b2 b3 => k7 bb b1 b2 (b3 _ (.head _))) k5 (fun HH tt ss => k6 HH aa ns g7 (tt _ (.head _)) ss) fun _ _ _ z => z.elim
  · simp at hp; rw [hp]; exact k2
  · simp at hp; rw [hp]; exact k3
  · simp at hp; rw [hp]; exact k4
theorem ends {l : PySem.W.OpenLaw} {w : World} {mg : Str → Option Value} {fa : Addr} {h : Heap} (t : Told1 h) (Nh : h.Ns mainGlobals mg) (em : mg ("law" : Str) = some (.ref fa)) :
    ∃ (K : PySem.W.Frag) (fd : FuncData) (sp : Sp) (c T : Addr), K.In h ∧ h.get? T = some { cls := .none, data := .fields #[] } ∧ K.lookup T = none ∧ PySem.W.CodeHd h c T ∧ (∀ (s : Shared) (u : Value), BindsTo s fd ⟨[u], []⟩ [("_law_script", u)]) ∧
        (∀ (H : Hp) (a : Addr) (ns : List Int), ns.length ≤ 63 → H T = some (.tbl #[]) → SqL K H a (ns.map V.int) → sp [.ref a] H (fun v _ => v = .bl true) fun _ _ _ => False) ∧
        ∀ base : Heap, K.In base → base.Ns mainGlobals mg → TabB base mg c T → FnOk l.prog w K mg base CX0 13 fa fd ["_law_script"] sp := by
  obtain ⟨K, c1, c2, c3, c4, c5, c6⟩ := t
  have eg : mg ("law" : Str) = some (.ref (He.ga K "law")) := PySem.W.mg_of c1 Nh (He.eqO_ok (List.all_eq_true.mp c2.glo_ "law" (by simp [gloNames])))
  obtain rfl : He.ga K "law" = fa := by
    rw [eg] at em
    exact Value.ref.inj (Option.some.inj em)
  obtain ⟨fd, FL⟩ := c3.def_ 46
  replace FL : DefAt K "law" "law" sLaw (He.ga K "law") fd := FL
  have bL := FunD.bindsA (ps := ["_law_script"]) FL fun _ _ _ _ _ _ us hl => match us, hl with | [_], _ => rfl
  refine ⟨K, fd, spLaw K [(eT K, qLam)], eC K, eT K, c1, c6, c5, PySem.W.codeHd_of_K c1 c4, fun s u => bL s [u] rfl, fun H a ns z1 z2 z3 => ⟨a, ns, rfl, z3, z1, fun p hp => ?_, fun _ => rfl⟩, fun base XB NB TB => ?_⟩
  · simp at hp
    rw [hp]
    exact TabS.nil z2
  · obtain ⟨fd2, FL2, ok⟩ := law_in (P := l.prog) (w := w) XB NB c2 c3 TB
    obtain ⟨oc, od, dV, kV, doc, pm, an, cdv, ct, osl, e1, l1, _⟩ := FL.ex
    obtain ⟨oc2, od2, dV2, kV2, doc2, pm2, an2, cdv2, ct2, osl2, e2, l2, _⟩ := FL2.ex
    have e3 : fd2 = fd := by
      rw [l1] at l2
      injection l2 with l2
      injection l2 with _ _ l3 _
      injection l3 with l3
      exact l3.symm
    rw [← e3]
    exact ok
end K1
open PySem PySem.W PySem.Calls PyProof.Rows
theorem PySem.Challenge.cw_lastgiver_k01_names_integers_and_ratios_holds : PySem.Challenge.rw_lastgiver_k01_names_integers_and_ratios.Holds := by
  w_on; o_law
  refine HandSHeadRun.head_imp (r := K1.R) (q := view K1.R.prog [0, 41]) (H := K1.hk) (ob := K1.ob) (M := 40000) (loose := K1.loose) (d := HandSHeadRun.topDef K1.R.prog 41) (kwd := []) K1.ob_eq
    K1.run (by kernel_rfl) (by kernel_rfl) (by kernel_rfl) (by rfl) (by first | assumption | decide +kernel) (by decide +kernel) ⟨rfl, rfl, rfl, rfl, rfl, by decide +kernel⟩ ?hw ?hc
  case hw => w_witness2
  case hc =>
    refine K1.walkT (l := PySem.Challenge.rw_lastgiver_k01_names_integers_and_ratios) (n := 63) (k := 13) (x := "_law_script") rfl (by decide) (by kernel_rfl) ⟨rfl, by decide, by decide⟩ ?F
    intro w mg fa h Y Nh em
    have en : (HandSHeadRun.topDef K1.R.prog 41).name = ("law" : PySem.Str) := by kernel_rfl
    rw [en] at em
    exact K1.ends (l := PySem.Challenge.rw_lastgiver_k01_names_integers_and_ratios) Y Nh em
