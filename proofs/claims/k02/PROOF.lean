import PyProof.Rows.All
import Wide.All
import OpenK.AllK
import Wide.FinOn
import KE.KOpsOwn
import HandS.ForMost
import HandS.ForExc
import HandS.Property
import HandS.ClsMeth
import KE.KCallOwn
import HandS.HeadNt
import HandS.Lambda
import HandS.ExcInit
import HandS.ExcField
import HandS.Wide
import HandS.Style
import HandS.Gcd
import HandS.Defaults
import HandS.FStr
import HandS.IsInst
import PyProof.ReprNest
import PyProof.ReprDict
import PyProof.ReprReads
import PyProof.ReprHeadsEmpty
import PyProof.StrHeap
import PyProof.CallFns
import HandS.List
import HandS.Dict
import HandS.Iter
import PyProof.EqKinds
import PyProof.ReprLen
import HandS.Sort
import HandS.More
import HandS.Conv
import HandS.Walk
import HandS.Star
import HandS.Zip
import HandS.MakeKwOnly
import HandS.Text
import HandS.Codes
import HandS.Head0
import HandS.Head1
import HandS.Head2
import HandS.Head3
import HandS.HeadHook1
import HandS.HeadHook2
import HandS.HeadHook4
import HandS.EndTab
import KE.KStateDown
import Lean
import PySem.Challenge.RW_lastgiver_k02_papers_keep_what_they_tell
set_option Elab.async false
set_option linter.all false
set_option maxRecDepth 100000
set_option maxHeartbeats 0
namespace K1
open PySem PySem.Spec PyProof.Rows L2 LamX
def top (i : Nat) : Stmt := PySem.Challenge.pw_lastgiver_k02_papers_keep_what_they_tell.main.body.getD i (.Pass ⟨0, 0, 0, 0⟩)
end K1
namespace K1
open PySem PySem.Spec PyProof.Rows L2 LamX
abbrev sFixed : Stmt := top 3
end K1
namespace K1
open PySem PySem.Spec PyProof.Rows L2 LamX
abbrev sIsInt : Stmt := top 17
end K1
namespace K1
open PySem PySem.Spec PyProof.Rows L2 LamX
abbrev sIsName : Stmt := top 18
end K1
namespace K1
open PySem PySem.Spec PyProof.Rows L2 LamX
abbrev sIsListed : Stmt := top 19
end K1
namespace K1
open PySem PySem.Spec PyProof.Rows L2 LamX
abbrev sAreNames : Stmt := top 20
end K1
namespace K1
open PySem PySem.Spec PyProof.Rows L2 LamX
abbrev sNoneTwice : Stmt := top 21
end K1
namespace K1
open PySem PySem.Spec PyProof.Rows L2 LamX
abbrev sRight : Stmt := top 27
end K1
namespace K1
open PySem PySem.Spec PyProof.Rows L2 LamX
abbrev sIsRatio : Stmt := top 28
end K1
namespace K1
open PySem PySem.Spec PyProof.Rows L2 LamX
abbrev sIsAmount : Stmt := top 29
end K1
namespace K1
open PySem PySem.Spec PyProof.Rows L2 LamX
abbrev sCrate : Stmt := top 43
end K1
namespace K1
open PySem PySem.Spec PyProof.Rows L2 LamX
abbrev sHaul : Stmt := top 44
end K1
namespace K1
open PySem PySem.Spec PyProof.Rows L2 LamX
abbrev sValue : Stmt := top 45
end K1
namespace K1
open PySem PySem.Spec PyProof.Rows L2 LamX
abbrev sLFixed : Stmt := top 46
end K1
namespace K1
open PySem PySem.Spec PyProof.Rows L2 LamX
abbrev sSame : Stmt := top 47
end K1
namespace K1
open PySem PySem.Spec PyProof.Rows L2 LamX
abbrev sSpoil : Stmt := top 48
end K1
namespace K1
open PySem PySem.Spec PyProof.Rows L2 LamX
abbrev sPaper : Stmt := top 49
end K1
namespace K1
open PySem PySem.Spec PyProof.Rows L2 LamX
abbrev sTurned : Stmt := top 50
end K1
namespace K1
open PySem PySem.Spec PyProof.Rows L2 LamX
abbrev sPapersRight : Stmt := top 51
end K1
namespace K1
open PySem PySem.Spec PyProof.Rows L2 LamX
abbrev sFixedRight : Stmt := top 52
end K1
namespace K1
open PySem PySem.Spec PyProof.Rows L2 LamX
abbrev sKindsRight : Stmt := top 53
end K1
namespace K1
open PySem PySem.Spec PyProof.Rows L2 LamX
abbrev sLaw : Stmt := top 54
end K1
namespace K1
open PySem PySem.Spec PyProof.Rows L2 LamX
abbrev sPInit : Stmt := inClass (top 4) 0
end K1
namespace K1
open PySem PySem.Spec PyProof.Rows L2 LamX
abbrev sPEq : Stmt := inClass (top 4) 1
end K1
namespace K1
open PySem PySem.Spec PyProof.Rows L2 LamX
abbrev sPBool : Stmt := inClass (top 4) 2
end K1
namespace K1
open PySem PySem.Spec PyProof.Rows L2 LamX
abbrev sDInit : Stmt := inClass (top 5) 0
end K1
namespace K1
open PySem PySem.Spec PyProof.Rows L2 LamX
abbrev sDEq : Stmt := inClass (top 5) 1
end K1
namespace K1
open PySem PySem.Spec PyProof.Rows L2 LamX
abbrev sDBool : Stmt := inClass (top 5) 2
end K1
namespace K1
open PySem PySem.Spec PyProof.Rows L2 LamX
abbrev sBadInit : Stmt := inClass (top 8) 0
end K1
namespace K1
open PySem PySem.Spec PyProof.Rows L2 LamX
abbrev sRInit : Stmt := inClass (top 26) 0
end K1
namespace K1
open PySem PySem.Spec PyProof.Rows L2 LamX
abbrev sSign : Stmt := inClass (top 26) 1
end K1
namespace K1
open PySem PySem.Spec PyProof.Rows L2 LamX
abbrev sEq : Stmt := inClass (top 26) 9
end K1
namespace K1
open PySem PySem.Spec PyProof.Rows L2 LamX
abbrev sStr : Stmt := inClass (top 26) 10
end K1
namespace K1
open PySem PySem.Spec PyProof.Rows L2 LamX
abbrev sRepr : Stmt := inClass (top 26) 11
end K1
namespace K1
open PySem PySem.Spec PyProof.Rows L2 LamX
abbrev sOf : Stmt := inClass (top 26) 16
end K1
namespace K1
open PySem PySem.Spec PyProof.Rows L2 LamX
abbrev sKInit : Stmt := inClass (top 32) 0
end K1
namespace K1
open PySem PySem.Spec PyProof.Rows L2 LamX
abbrev sLeast : Stmt := inClass (top 34) 0
end K1
namespace K1
open PySem PySem.Spec PyProof.Rows L2 LamX
abbrev sNever : Stmt := inClass (top 35) 0
end K1
namespace K1
open PySem PySem.Spec PyProof.Rows L2 LamX
abbrev sGood : Stmt := inClass (top 37) 0
end K1
namespace K1
open PySem PySem.Spec PyProof.Rows L2 LamX
abbrev sStuck : Stmt := inClass (top 38) 0
end K1
namespace K1
open PySem PySem.Spec PyProof.Rows L2 LamX
abbrev sParted : Stmt := inClass (top 40) 0
end K1
namespace K1
open PySem PySem.Spec PyProof.Rows L2 LamX
abbrev sTogether : Stmt := inClass (top 41) 0
end K1
namespace K1
open PySem PySem.Spec PyProof.Rows L2 LamX
def kinds6 : List String := ["NoneType", "bool", "str", "list", "tuple", "dict"]
end K1
namespace K2
open PySem PySem.Spec PyProof.Rows L2 K1 LamX
abbrev rC (K : PySem.W.Frag) : Addr := He.ga K "Ratio"
end K2
namespace K2
open PySem PySem.Spec PyProof.Rows L2 K1 LamX
abbrev bC (K : PySem.W.Frag) : Addr := He.ga K "BadRatio"
end K2
namespace K2
open PySem PySem.Spec PyProof.Rows L2 K1 LamX
/-- the getter of a property -/
def gP (K : PySem.W.Frag) (m : Str) : Addr := match PySem.W.recIn K (He.ma K (rC K) m) "property" with
  | some (.ref f :: _) => f
  | _ => 0
end K2
namespace K2
open PySem PySem.Spec PyProof.Rows L2 K1 LamX
def propB (K : PySem.W.Frag) (m : Str) : Bool := He.eqO (PySem.W.findIn K (.ref (rC K)) m) (some (some (.ref (He.ma K (rC K) m)))) && (He.eqO (PySem.W.specialIn K (.ref (He.ma K (rC K) m)) "__get__") (some (some (.builtin "property.__get__"))) &&
  (decide (PySem.W.takesIn K (.ref (He.ma K (rC K) m)) = some true) && (match PySem.W.recIn K (He.ma K (rC K) m) "property" with
    | some (.ref _ :: _) => true
    | _ => false)))
end K2
namespace K2
open PySem PySem.Spec PyProof.Rows L2 K1 LamX
def ownB (K : PySem.W.Frag) (m : Str) : Bool := He.eqO (PySem.W.findIn K (.ref (rC K)) m) (some (some (.ref (He.ma K (rC K) m)))) && PySem.W.isFn K (.ref (He.ma K (rC K) m))
end K2
namespace K2
open PySem PySem.Spec PyProof.Rows L2 K1 LamX
/-- a method that a class has from itself or from another -/
def inhB (K : PySem.W.Frag) (c d m : Str) : Bool := He.eqO (PySem.W.findIn K (.ref (He.ga K c)) m) (some (some (.ref (He.ma K (He.ga K d) m)))) && PySem.W.isFn K (.ref (He.ma K (He.ga K d) m))
end K2
namespace K2
open PySem PySem.Spec PyProof.Rows L2 K1 LamX
/-- a class of papers -/
def papB (K : PySem.W.Frag) (c : Str) : Bool := (He.Fa.cls c).ok K && ((He.Fa.noat c "word").ok K && ((He.Fa.noat c "parts").ok K && ((He.Fa.mkr c).ok K && (PySem.W.makesIn K (He.ga K c) && (PySem.W.notFirst K (He.ga K c) (.type "tuple") && !decide (He.ga K c = rC K))))))
end K2
namespace K2
open PySem PySem.Spec PyProof.Rows L2 K1 LamX
def freeNames : List Str := ["abs", "int", "len", "str", "bool", "repr", "isinstance", "range", "all", "list", "tuple", "dict", "sorted", "zip", "type"]
end K2
namespace K2
open PySem PySem.Spec PyProof.Rows L2 K1 LamX
def gloNames : List Str := ["Ratio", "BadRatio", "Keeper", "Paper", "Denial", "Least", "Never", "Good", "Stuck", "Parted", "Together", "is_integer", "is_name", "is_listed", "are_names", "check_none_twice", "_right", "is_ratio", "is_amount", "fixed", "_law_crate", "_law_haul", "_law_value", "_law_fixed", "_law_same", "_law_spoil", "_law_paper", "_law_turned", "_law_papers_right", "_law_fixed_right", "_law_kinds_right", "law"]
end K2
namespace K2
open PySem PySem.Spec PyProof.Rows L2 K1 LamX
def mroB (C : Addr) : List Value → Bool
  | .ref c :: bm => decide (c = C) && PySem.HandSPX.refsVE bm
  | _ => false
end K2
namespace K2
open PySem PySem.Spec PyProof.Rows L2 K1 LamX
/-- an error class: its object, its mro -/
def oexB (K : PySem.W.Frag) (C : Addr) : Bool := match K.lookup C with
  | some ⟨.type t, _, .cls cd, sl⟩ => t == "type" && ((match sl.toList with
    | [_, _, _, _, some (.builtin n), _] => n == "ValueError.__new__"
    | _ => false) && (!cd.hasDel && (cd.hasDict && mroB C cd.mro)))
  | _ => false
end K2
namespace K2
open PySem PySem.Spec PyProof.Rows L2 K1 LamX
def factB0 (K : PySem.W.Frag) : Bool :=
  freeNames.all (fun x => He.eqO (PySem.W.nsIn K mainGlobals x) (some none)) && (He.eqO (PySem.W.nsIn K mainGlobals "gcd") (some (some (.builtin "math.gcd"))) && (gloNames.all (fun x => He.eqO (PySem.W.nsIn K mainGlobals x) (some (some (.ref (He.ga K x))))) && ((He.Fa.str "DIGITS" "0123456789").ok K && ((He.Fa.str "LETTERS" "abcdefghijklmnopqrstuvwxyz").ok K && ((He.Fa.int "MOST_SIGNS" 12).ok K && ((He.Fa.cls "Ratio").ok K && ((He.Fa.noat "Ratio" "top").ok K)))))))
end K2
namespace K2
open PySem PySem.Spec PyProof.Rows L2 K1 LamX
def factB1 (K : PySem.W.Frag) : Bool :=
  (He.Fa.noat "Ratio" "bottom").ok K && ((He.Fa.mkr "Ratio").ok K && ((["Ratio", "Keeper", "Paper", "Denial", "Least", "Never", "Good", "Stuck", "Parted", "Together"] : List Str).all (fun x => He.eqO (PySem.W.findIn K (.ref (He.ga K x)) "__class__") (some (some (.builtin "object.__class__")))) && (He.eqO (PySem.W.specialIn K (.builtin "object.__class__") "__get__") (some (some (.builtin "getset_descriptor.__get__"))) && (decide (PySem.W.takesIn K (.builtin "object.__class__") = some true) && ((["Ratio", "Keeper", "Paper", "Denial", "Least", "Never", "Good", "Stuck", "Parted", "Together"] : List Str).all (fun x => decide (PySem.W.mroIn K (He.ga K x) (.type "object") = some true)) && (decide (PySem.W.kitOne K (.ref (rC K)) (.ref (rC K)) = some true) && (decide (PySem.W.kitOne K (.ref (rC K)) (.type "int") = some false))))))))
end K2
namespace K2
open PySem PySem.Spec PyProof.Rows L2 K1 LamX
def factB2 (K : PySem.W.Frag) : Bool :=
  decide (PySem.W.kitOne K (.ref (rC K)) (.type "bool") = some false) && (("int" :: kinds6).all (fun T => decide (PySem.W.kitOne K (.type T) (.ref (rC K)) = some false)) && (["list", "tuple", "dict"].all (fun T => decide (PySem.W.kitOne K (.ref (rC K)) (.type T) = some false)) && ((["__eq__", "__str__", "__repr__"] : List Str).all (ownB K) && (PySem.W.notFirst K (rC K) (.ref (rC K)) && ((["NoneType", "bool", "int", "str", "tuple"] : List String).all (fun T => PySem.W.notFirst K (rC K) (.type T)) && ((["NoneType", "bool", "int", "str", "tuple"] : List String).all (fun T => decide (PySem.W.subIn K (.ref (rC K)) (.type T) = some false)) && (propB K "sign")))))))
end K2
namespace K2
open PySem PySem.Spec PyProof.Rows L2 K1 LamX
def factB3 (K : PySem.W.Frag) : Bool :=
  PySem.W.readsIn K (rC K) (.type "type") && (He.eqO (PySem.W.specialIn K (.ref (rC K)) "__getattribute__") (some (some (.builtin "type.__getattribute__"))) && (He5.wrapB K (rC K) "staticmethod" "staticmethod.__get__" "of" && (oexB K (bC K) && (He.eqO (PySem.W.findIn K (.ref (bC K)) "__setattr__") (some (some (.builtin "object.__setattr__"))) && (decide (PySem.W.typeIn K (.ref (bC K)) = some (.type "type")) && (PySem.W.keepIn K (.ref (bC K)) && (xfB K (bC K))))))))
end K2
namespace K2
open PySem PySem.Spec PyProof.Rows L2 K1 LamX
def factB4 (K : PySem.W.Frag) : Bool :=
  He.eqO (PySem.W.findIn K (.ref (bC K)) "part") (some none) && (decide (PySem.W.exmOne K (.ref (bC K)) (.ref (bC K)) = some true) && (He.eqO (PySem.W.findIn K (.ref (bC K)) "__init__") (some (some (.ref (He.ma K (bC K) "__init__")))) && (decide (PySem.W.typeIn K (.ref (He.ma K (bC K) "__init__")) = some (.type "function")) && (papB K "Paper" && (papB K "Denial" && (papB K "Least" && (papB K "Never")))))))
end K2
namespace K2
open PySem PySem.Spec PyProof.Rows L2 K1 LamX
def factB5 (K : PySem.W.Frag) : Bool :=
  papB K "Good" && (papB K "Stuck" && (papB K "Parted" && (papB K "Together" && (inhB K "Paper" "Paper" "__eq__" && (inhB K "Paper" "Paper" "__bool__" && (inhB K "Denial" "Denial" "__eq__" && (inhB K "Denial" "Denial" "__bool__")))))))
end K2
namespace K2
open PySem PySem.Spec PyProof.Rows L2 K1 LamX
def factB6 (K : PySem.W.Frag) : Bool :=
  inhB K "Least" "Paper" "__eq__" && (inhB K "Least" "Paper" "__bool__" && (inhB K "Never" "Denial" "__eq__" && (inhB K "Never" "Denial" "__bool__" && (inhB K "Good" "Paper" "__eq__" && (inhB K "Good" "Paper" "__bool__" && (inhB K "Stuck" "Denial" "__eq__" && (inhB K "Stuck" "Denial" "__bool__")))))))
end K2
namespace K2
open PySem PySem.Spec PyProof.Rows L2 K1 LamX
def factB7 (K : PySem.W.Frag) : Bool :=
  inhB K "Parted" "Paper" "__eq__" && (inhB K "Parted" "Paper" "__bool__" && (inhB K "Together" "Denial" "__eq__" && (inhB K "Together" "Denial" "__bool__" && ((He.Fa.noat "Least" "number").ok K && ((He.Fa.noat "Least" "row").ok K && ((He.Fa.noat "Least" "pinch").ok K && ((He.Fa.noat "Least" "fence").ok K)))))))
end K2
namespace K2
open PySem PySem.Spec PyProof.Rows L2 K1 LamX
def factB8 (K : PySem.W.Frag) : Bool :=
  (He.Fa.noat "Never" "sets").ok K && ((He.Fa.noat "Good" "row").ok K && ((He.Fa.noat "Stuck" "sets").ok K && ((He.Fa.noat "Parted" "done").ok K && ((He.Fa.noat "Together" "lines").ok K && ((decide (PySem.W.subIn K (.ref (He.ga K "Denial")) (.ref (He.ga K "Paper")) = some true) && !decide (He.ga K "Paper" = He.ga K "Denial")) && (PySem.W.notFirst K (He.ga K "Denial") (.ref (He.ga K "Paper")) && ((PySem.W.notFirst K (He.ga K "Good") (.ref (He.ga K "Parted")) && !decide (He.ga K "Good" = He.ga K "Parted")))))))))
end K2
namespace K2
open PySem PySem.Spec PyProof.Rows L2 K1 LamX
def factB9 (K : PySem.W.Frag) : Bool :=
  (decide (PySem.W.subIn K (.ref (He.ga K "Good")) (.ref (He.ga K "Paper")) = some true) && !decide (He.ga K "Paper" = He.ga K "Good")) && (decide (PySem.W.kitOne K (.ref (He.ga K "Stuck")) (.ref (He.ga K "Denial")) = some true) && (decide (PySem.W.kitOne K (.ref (He.ga K "Good")) (.ref (He.ga K "Denial")) = some false) && ((He.Fa.cls "Keeper").ok K && ((He.Fa.noat "Keeper" "name").ok K && ((He.Fa.noat "Keeper" "purse").ok K && ((He.Fa.noat "Keeper" "relied_on_by").ok K && ((He.Fa.mkr "Keeper").ok K)))))))
end K2
namespace K2
open PySem PySem.Spec PyProof.Rows L2 K1 LamX
def factB10 (K : PySem.W.Frag) : Bool :=
  PySem.W.makesIn K (He.ga K "Keeper") && (!decide (He.ga K "Good" = He.ga K "Keeper") && (PySem.W.notFirst K (He.ga K "Good") (.ref (He.ga K "Keeper"))))
end K2
namespace K2
open PySem PySem.Spec PyProof.Rows L2 K1 LamX
def mkA (a : PySem.W.Frag → Addr) (name qual : Str) (st : Stmt) (dfl : List He.Dv := []) : He5.DefA := { at_ := a, name := name, qual := qual, params := defArgs st, body := defBody st, scope := defScope st, dfl := dfl }
end K2
namespace K2
open PySem PySem.Spec PyProof.Rows L2 K1 LamX
def topA (x : Str) (st : Stmt) : He5.DefA := mkA (fun K => He.ga K x) x x st
end K2
namespace K2
open PySem PySem.Spec PyProof.Rows L2 K1 LamX
def fns : List He5.DefA := [mkA (fun K => He.ma K (rC K) "__init__") "__init__" "Ratio.__init__" sRInit [.int 1],
  mkA (fun K => He.ma K (bC K) "__init__") "__init__" "BadRatio.__init__" sBadInit,
  mkA (fun K => gP K "sign") "sign" "Ratio.sign" sSign,
  mkA (fun K => He5.wf K (rC K) "staticmethod" "of") "of" "Ratio.of" sOf,
  mkA (fun K => He.ma K (rC K) "__eq__") "__eq__" "Ratio.__eq__" sEq,
  mkA (fun K => He.ma K (rC K) "__str__") "__str__" "Ratio.__str__" sStr,
  mkA (fun K => He.ma K (rC K) "__repr__") "__repr__" "Ratio.__repr__" sRepr,
  mkA (fun K => He.ma K (He.ga K "Paper") "__init__") "__init__" "Paper.__init__" sPInit,
  mkA (fun K => He.ma K (He.ga K "Paper") "__eq__") "__eq__" "Paper.__eq__" sPEq,
  mkA (fun K => He.ma K (He.ga K "Paper") "__bool__") "__bool__" "Paper.__bool__" sPBool,
  mkA (fun K => He.ma K (He.ga K "Denial") "__init__") "__init__" "Denial.__init__" sDInit,
  mkA (fun K => He.ma K (He.ga K "Denial") "__eq__") "__eq__" "Denial.__eq__" sDEq,
  mkA (fun K => He.ma K (He.ga K "Denial") "__bool__") "__bool__" "Denial.__bool__" sDBool,
  mkA (fun K => He.ma K (He.ga K "Keeper") "__init__") "__init__" "Keeper.__init__" sKInit,
  mkA (fun K => He.ma K (He.ga K "Least") "__init__") "__init__" "Least.__init__" sLeast,
  mkA (fun K => He.ma K (He.ga K "Never") "__init__") "__init__" "Never.__init__" sNever,
  mkA (fun K => He.ma K (He.ga K "Good") "__init__") "__init__" "Good.__init__" sGood,
  mkA (fun K => He.ma K (He.ga K "Stuck") "__init__") "__init__" "Stuck.__init__" sStuck,
  mkA (fun K => He.ma K (He.ga K "Parted") "__init__") "__init__" "Parted.__init__" sParted,
  mkA (fun K => He.ma K (He.ga K "Together") "__init__") "__init__" "Together.__init__" sTogether,
  topA "is_integer" sIsInt,
  topA "is_name" sIsName,
  topA "is_listed" sIsListed,
  topA "are_names" sAreNames,
  topA "check_none_twice" sNoneTwice,
  topA "_right" sRight,
  topA "is_ratio" sIsRatio,
  topA "is_amount" sIsAmount,
  topA "fixed" sFixed,
  topA "_law_crate" sCrate,
  topA "_law_haul" sHaul,
  topA "_law_value" sValue,
  topA "_law_fixed" sLFixed,
  topA "_law_same" sSame,
  topA "_law_spoil" sSpoil,
  topA "_law_paper" sPaper,
  topA "_law_turned" sTurned,
  topA "_law_papers_right" sPapersRight,
  topA "_law_fixed_right" sFixedRight,
  topA "_law_kinds_right" sKindsRight,
  topA "law" sLaw]
end K2
namespace K2
open PySem PySem.Spec PyProof.Rows L2 K1 LamX
def loose0 : List PySem.Str := ["_wall", "fixed", "Paper", "Denial", "LastError", "BadRatio", "BadKeeper", "Twice", "BadText", "LETTERS", "DIGITS", "MOST_SIGNS", "MOST_DIGITS", "is_integer", "is_name", "is_listed", "are_names", "check_none_twice", "words_of", "check_end"]
end K2
namespace K2
open PySem PySem.Spec PyProof.Rows L2 K1 LamX
def loose1 : List PySem.Str := ["integer_in", "Ratio", "_right", "is_ratio", "is_amount", "ratio_in", "Keeper", "Least", "Never", "Good", "Stuck", "Parted", "Together", "_law_crate", "_law_haul", "_law_value", "_law_fixed", "_law_same", "_law_spoil", "_law_paper", "_law_turned", "_law_papers_right", "_law_fixed_right", "_law_kinds_right"]
end K2
namespace K2
open PySem PySem.Spec PyProof.Rows L2 K1 LamX
def loose : List PySem.Str := loose0 ++ loose1
end K2
namespace K2
open PySem PySem.Spec PyProof.Rows L2 K1 LamX
abbrev R : PySem.W.OpenRow := PySem.W.OpenLaw.row PySem.Challenge.rw_lastgiver_k02_papers_keep_what_they_tell
end K2
namespace K2
open PySem PySem.Spec PyProof.Rows L2 K1 LamX
noncomputable abbrev wf (w : World) : Option (Shared × PySem.W.SharedT) := HandSHeadRun.wholeF (fun p => HandSHeadRun.stepQ (HandSHeadRun.denQ HandSHeadRun.tabQ) p w) HandSHeadRun.fenceQ 40000 R.prog
end K2
namespace K2
open PySem PySem.Spec PyProof.Rows L2 K1 LamX
abbrev sq (s : Shared) : Bool := PySem.W.xlAt (PySem.W.view R.prog [0, 54]) [] s && PySem.W.recOk R.toRowW.records s
end K2
namespace K2
open PySem PySem.Spec PyProof.Rows L2 K1 LamX
/-- the addresses that are looked at -/
def adl : List Addr := [3, 6, 4, 49, 54, 85, 120, 132, 152, 171, 190, 209, 218, 223, 230, 235, 242, 249, 256, 261, 399, 410, 417, 424, 431, 469, 490, 509, 528, 547, 566, 585, 594, 601, 606, 611, 616, 623, 630, 637, 642, 649, 654, 661, 0, 48, 53, 84, 119, 131, 151, 170, 189, 208, 217, 222, 229, 234, 241, 248, 255, 260, 398, 409, 416, 423, 430, 468, 489, 508, 527, 546, 565, 584, 593, 600, 605, 610, 615, 622, 629, 636, 641, 648, 653, 660, 43, 44, 45, 46, 47, 50, 51, 52, 68, 75, 82, 83, 86, 87, 103, 110, 117, 118, 130, 133, 149, 150, 168, 169, 187, 188, 206, 207, 212, 213, 214, 215, 216, 219, 220, 221, 224, 225, 226, 227, 228, 231, 232, 233, 236, 237, 238, 239, 240, 243, 244, 245, 246, 247, 250, 251, 252, 253, 254, 257, 258, 259, 276, 284, 292, 299, 306, 313, 320, 327, 334, 341, 348, 355, 362, 369, 376, 385, 395, 397, 400, 401, 404, 405, 406, 407, 408, 411, 412, 413, 414, 415, 418, 419, 420, 421, 422, 425, 426, 427, 428, 429, 445, 452, 459, 466, 467, 470, 471, 487, 488, 506, 507, 525, 526, 544, 545, 563, 564, 582, 583, 588, 589, 590, 591, 592, 595, 596, 597, 598, 599, 602, 603, 604, 607, 608, 609, 612, 613, 614, 617, 618, 619, 620, 621, 624, 625, 626, 627, 628, 631, 632, 633, 634, 635, 638, 639, 640, 643, 644, 645, 646, 647, 650, 651, 652, 655, 656, 657, 658, 659, 67, 74, 81, 102, 109, 116, 148, 167, 186, 205, 275, 269, 283, 291, 298, 305, 312, 319, 326, 333, 340, 347, 354, 361, 368, 375, 383, 384, 393, 394, 444, 451, 458, 465, 486, 505, 524, 543, 562, 581, 62, 63, 64, 65, 66, 69, 70, 71, 72, 73, 76, 77, 78, 79, 80, 97, 98, 99, 100, 101, 104, 105, 106, 107, 108, 111, 112, 113, 114, 115, 143, 144, 145, 146, 147, 162, 163, 164, 165, 166, 181, 182, 183, 184, 185, 200, 201, 202, 203, 204, 270, 271, 272, 273, 274, 282, 290, 293, 294, 295, 296, 297, 300, 301, 302, 303, 304, 307, 308, 309, 310, 311, 314, 315, 316, 317, 318, 321, 322, 323, 324, 325, 328, 329, 330, 331, 332, 335, 336, 337, 338, 339, 342, 343, 344, 345, 346, 349, 350, 351, 352, 353, 356, 357, 358, 359, 360, 363, 364, 365, 366, 367, 370, 371, 372, 373, 374, 382, 386, 392, 396, 439, 440, 441, 442, 443, 446, 447, 448, 449, 450, 453, 454, 455, 456, 457, 460, 461, 462, 463, 464, 481, 482, 483, 484, 485, 500, 501, 502, 503, 504, 519, 520, 521, 522, 523, 538, 539, 540, 541, 542, 557, 558, 559, 560, 561, 576, 577, 578, 579, 580, 2]
end K2
namespace K2
open PySem PySem.Spec PyProof.Rows L2 K1 LamX
abbrev oF (s : PySem.W.SharedT) : PySem.W.Frag := He.frT (HandSHeadRun.getT s) adl
end K2
namespace K2
open PySem PySem.Spec PyProof.Rows L2 K1 LamX
def factAll (K : PySem.W.Frag) : Bool := factB0 K && (factB1 K && (factB2 K && (factB3 K && (factB4 K && (factB5 K && (factB6 K && (factB7 K && (factB8 K && (factB9 K && (factB10 K))))))))))
end K2
namespace K2
open PySem PySem.Spec PyProof.Rows L2 K1 LamX
theorem runA1 (w : World) : (wf w).map (fun x => HandSHeadRun.looksF R.prog x.1.heap x.2.abs) = some true := by kernel_rfl
theorem runA2 (w : World) : (wf w).map (fun x => HandSHeadRun.seenQ (PySem.W.view R.prog [0, 54]) loose (importedModules R.prog.main.body) sq x.2.abs) = some (PySem.W.openGood (PySem.W.view R.prog [0, 54]) loose) := by kernel_rfl
theorem runB0 (w : World) : (wf w).map (fun x => factB0 (oF x.2)) = some true := by kernel_rfl
theorem runB1 (w : World) : (wf w).map (fun x => factB1 (oF x.2)) = some true := by kernel_rfl
theorem runB2 (w : World) : (wf w).map (fun x => factB2 (oF x.2)) = some true := by kernel_rfl
theorem runB3 (w : World) : (wf w).map (fun x => factB3 (oF x.2)) = some true := by kernel_rfl
theorem runB4 (w : World) : (wf w).map (fun x => factB4 (oF x.2)) = some true := by kernel_rfl
theorem runB5 (w : World) : (wf w).map (fun x => factB5 (oF x.2)) = some true := by kernel_rfl
theorem runB6 (w : World) : (wf w).map (fun x => factB6 (oF x.2)) = some true := by kernel_rfl
theorem runB7 (w : World) : (wf w).map (fun x => factB7 (oF x.2)) = some true := by kernel_rfl
theorem runB8 (w : World) : (wf w).map (fun x => factB8 (oF x.2)) = some true := by kernel_rfl
theorem runB9 (w : World) : (wf w).map (fun x => factB9 (oF x.2)) = some true := by kernel_rfl
theorem runB10 (w : World) : (wf w).map (fun x => factB10 (oF x.2)) = some true := by kernel_rfl
theorem runD (w : World) : (wf w).map (fun x => He5.obsA [] fns (oF x.2)) = some (He5.valA fns) := by kernel_rfl
end K2
/-! Operators, abs, truth, == of an own class; a static method: rules over the layer. -/
namespace K1
open PySem PySem.Spec PyProof.Rows L2

section
open PySem.W PySem.Calls
variable {prog : Program} {w : World} {A : Around} {E : Value → Shared → Prop} {s : Shared} {K : Frag} {x C L f : Addr} {h0 : Heap} {m : Str → Option Value} {ox : Obj} {od : Option Obj} {T : String}
/-- o op b, b of a built-in class that a look at the heap tells -/
theorem bin_look {op : Operator} {b : Value} {fo ro rc : Option Value} {Q : Value → Shared → Prop} (F : Fr h0 L s.heap m) (X0 : K.In h0) (I : InstAt s.heap x ox C od) (hb : ∀ h', (∀ a o, s.heap.get? a = some o → h'.get? a = some o) → Looks (model prog w) h' (typeOf b) (.type T))
    (hc : selfFirst K C = true) (hs : findIn K (.ref C) (PySem.dunder op.info.2) = some (some (.ref f))) (hf : isFn K (.ref f) = true) (hr : findIn K (.ref C) (dunderR op.info.2) = some rc) (hp : rc = none ∨ ∃ g : Addr, rc = some (.ref g))
    (t1 : findIn K (.type T) (PySem.dunder op.info.2) = some fo) (t2 : findIn K (.type T) (dunderR op.info.2) = some ro) (ts : subIn K (.type T) (.ref C) = some false)
    (h : wpAny (model prog w) A (call (.ref f) [.ref x, b]) (PySem.W.CmpBack Q) E s) : wpAny (model prog w) A (binaryOp op (.ref x) b) Q E s := by
  have KX := X0.keeps F.keep
  obtain ⟨cd, rest, c1, c2⟩ := ksp_first hc
  rcases e : op.info with ⟨sy, n⟩
  rw [e] at hs hr t1 t2
  dsimp only at hs hr t1 t2
  have done := ksp_try KX I hs hf h
  have hb1 := hb s.heap fun _ _ z => z
  obtain ⟨hh, g, d, tt, os⟩ := s
  have k1 : Looks (model prog w) hh (typeOf (.ref x)) (.ref C) := I.type
  have k2 : Looks (model prog w) hh (typeOf b) (.type T) := hb1
  have k3 : Looks (model prog w) hh (fillsNumberSlot (.ref C) n) true := fills_K KX c1 c2 hs
  obtain ⟨rt, k4⟩ : ∃ rt, Looks (model prog w) hh (fillsNumberSlot (.type T) n) rt := ⟨_, ksp_fillsT KX t1 t2⟩
  have k5 : Looks (model prog w) hh (isSubtype (.type T) (.ref C)) false := looks_subIn KX ts
  have k6 : Looks (model prog w) hh (numberSlotInPython (.ref C) n) true := ksp_inPy KX hs hr hp
  have k7 : Looks (model prog w) hh (numberSlotInPython (.type T) n) false := Looks.of_pure rfl
  have k8 : Looks (model prog w) hh (typeLookup (.type T) (dunderR n)) ro := looks_findIn KX t2
  have ne : (Value.ref C == Value.type T) = false := Bool.eq_false_iff.mpr fun q => by cases beq_iff_eq.mp q
  simp only [binaryOp, e]
  refine wpAny_holding (wpAny_bind ?_)
  unfold binaryOp1
  refine wpAny_bind (k1.at (wpAny_bind (k2.at (wpAny_bind (k3.at ?_)))))
  simp only [ne, Bool.false_eq_true, if_false]
  cases rt <;>
  · ksp_lk
    refine wpAny_mono done (fun r s' z => ?_) fun _ _ q => q
    obtain ⟨v, rfl, hq⟩ := z
    ksp_lk
    exact hq
theorem abs_own {Q : Value → Shared → Prop} (X : K.In s.heap) (I : InstAt s.heap x ox C od) (hs : findIn K (.ref C) "__abs__" = some (some (.ref f))) (hf : isFn K (.ref f) = true)
    (h : wpAny (model prog w) A.in1 (call (.ref f) [.ref x]) Q E s) : wpAny (model prog w) A (call (.builtin "abs") [.ref x]) Q E s := by
  refine call_function_entry kind_abs plain_abs entry_abs (args_abs _) ?_
  unfold Builtin.«abs»
  refine wpAny_bind (m := oneArg "abs" _) (wpAny_pure ?_)
  refine wpAny_bind (m := callSpecial? (.ref x) (Str.ofString "__abs__")) (special_fn X I hs (beq_iff_eq.mp hf) (wpAny_mono h (fun r s' hr => ?_) fun _ _ y => y))
  exact wpAny_pure ⟨_, rfl, hr⟩
end

/-! ### over the layer -/
section
variable {X : Cx} {pins : List (Addr × Obj)} {σ : L2.St} {H : Hp} {s s' : Shared} {Q : VK}
theorem ep_back {u : Value} (h : EP X pins σ Q u s') : PySem.W.CmpBack (EP X pins σ Q) u s' := by
  cases u with
  | notImplemented =>
    obtain ⟨v, H', I, r, q⟩ := h
    exfalso
    cases v <;> first | exact nomatch (r : Value.notImplemented = _) | (have z : ∃ t, Value.notImplemented = _ := r; obtain ⟨t, e⟩ := z; exact nomatch e)
  | _ => exact h
/-- the type of a value, looked up -/
theorem ty_look {M : Model} {x : V} {u t : Value} (I : Inv X pins σ H s) (rx : RelV x u) (ty : TyOf X.K H x t) : PySem.W.Looks M s.heap (typeOf u) t := by
  cases ty with
  | non => cases (show u = Value.none from rx); exact PySem.W.Looks.of_pure rfl
  | bl y => cases (show u = Value.bool y from rx); exact PySem.W.Looks.of_pure rfl
  | int i => obtain ⟨t, q⟩ := (show ∃ t, u = Value.int i t from rx); cases q; exact PySem.W.Looks.of_pure rfl
  | str y => obtain ⟨t, q⟩ := (show ∃ t, u = Value.str y t from rx); cases q; exact PySem.W.Looks.of_pure rfl
  | flt y => obtain ⟨t, q⟩ := (show ∃ t, u = Value.float y t from rx); cases q; exact PySem.W.Looks.of_pure rfl
  | @lst a xs ea =>
    cases (show u = Value.ref a from rx)
    obtain ⟨_, _, n, _, h1⟩ := (show ObjOk X.prog X.w H s.heap a (.lst xs) from I.hok a _ ea)
    exact (PySem.W.Looks.ld (part := none) h1).andThen .now
  | @frz a ob xs ea =>
    cases (show u = Value.ref a from rx)
    obtain ⟨_, _, _, n, _, h1⟩ := (show ObjOk X.prog X.w H s.heap a (.frz ob (.lst xs)) from I.hok a _ ea)
    exact (PySem.W.Looks.ld (part := none) h1).andThen .now
  | @tup a xs ea =>
    cases (show u = Value.ref a from rx)
    obtain ⟨_, _, _, o, h1, h2, _⟩ := (show ObjOk X.prog X.w H s.heap a (.tup xs) from I.hok a _ ea)
    rw [← h2]
    exact (PySem.W.Looks.ld (part := none) h1).andThen .now
  | @dK a kvs ea =>
    cases (show u = Value.ref a from rx)
    obtain ⟨_, _, vs, _, o, es, ep, h1, h2, _⟩ := (show ObjOk X.prog X.w H s.heap a (.dK kvs) from I.hok a _ ea)
    rw [← h2.1]
    exact (PySem.W.Looks.ld (part := none) h1).andThen .now
  | @dT a kvs ea =>
    cases (show u = Value.ref a from rx)
    obtain ⟨_, _, xs, _, o, es, ep, h1, h2, _⟩ := (show ObjOk X.prog X.w H s.heap a (.dT kvs) from I.hok a _ ea)
    rw [← h2.1]
    exact (PySem.W.Looks.ld (part := none) h1).andThen .now
  | @ins a C dx fs ea cl ha hn htk hm =>
    cases (show u = Value.ref a from rx)
    obtain ⟨mA, O, _⟩ := ins_get I.hok ea
    obtain ⟨od, J, _⟩ := O.look
    exact J.type
end

/-- an own operator's def: where it is found -/
structure OwnM (K : PySem.W.Frag) (C : Addr) (nm : Str) (f : Addr) : Prop where
  at_ : PySem.W.findIn K (.ref C) nm = some (some (.ref f))
  fn : PySem.W.isFn K (.ref f) = true
/-- what stands at the right: an instance of the class itself, or a value of a built-in class with these facts -/
def RightO (K : PySem.W.Frag) (C : Addr) (op : Operator) (y : V) (H : Hp) : Prop :=
  (∃ a dx fs, y = .ref a ∧ H a = some (.ins C dx fs)) ∨ ∃ (T : String) (fo ro : Option Value), TyOf K H y (.type T) ∧ PySem.W.findIn K (.type T) (PySem.dunder op.info.2) = some fo ∧ PySem.W.findIn K (.type T) (dunderR op.info.2) = some ro ∧ PySem.W.subIn K (.type T) (.ref C) = some false
/-- x op y: the def's promise at the two -/
def rOwn (K : PySem.W.Frag) (C : Addr) (op : Operator) (sp : Sp) (E : XK) : R2 := fun x y H Q => ∃ a dx fs, x = .ref a ∧ H a = some (.ins C dx fs) ∧ RightO K C op y H ∧ sp [x, y] H Q E
section
variable {X : Cx} {CX : CXT} {k : Nat} {C f : Addr} {fd : FuncData} {ps : List Str} {sp : Sp} {E : XK}
theorem op_own {op : Operator} (M : OwnM X.K C (PySem.dunder op.info.2) f) (c1 : PySem.W.selfFirst X.K C = true) (c2 : PySem.W.findIn X.K (.ref C) (dunderR op.info.2) = some none)
    (F : FnOk X.prog X.w X.K X.mg X.base CX k f fd ps sp) (hr : Room k X.A) (hb : Binds X.K fd ps []) (hx : Passes CX X E) : OpR X (binaryOp op) (rOwn X.K C op sp E) := by
  intro pins s σ H x y v u Q I rx ry h
  obtain ⟨a, dx, fs, rfl, ha, hy, hs⟩ := h
  obtain rfl : v = Value.ref a := rx
  obtain ⟨mA, O, _⟩ := ins_get I.hok ha
  obtain ⟨od, J, _⟩ := O.look
  obtain ⟨m, hF⟩ := I.fr
  have run : wpAny (model X.prog X.w) X.A (call (.ref f) [.ref a, u]) (PySem.W.CmpBack (EP X pins σ Q)) X.xe s :=
    thn (run_fn (us := [.ref a, u]) (vs := [.ref a, y]) (dvs := []) F hr hb .nil hx I (.cons rfl (.cons ry .nil)) (by rw [List.append_nil]; exact hs)) fun _ _ z => ep_back z
  rcases hy with ⟨b, dy, gs, rfl, hb'⟩ | ⟨T, fo, ro, ty, t1, t2, t3⟩
  · obtain rfl : u = Value.ref b := ry
    obtain ⟨mB, O', _⟩ := ins_get I.hok hb'
    obtain ⟨od', J', _⟩ := O'.look
    exact PySem.W.binop_K hF I.ok.mod.kin J J'.type c1 M.at_ M.fn run
  · exact bin_look hF I.ok.mod.kin J (fun h' kp => (ty_look I ry ty).keeps kp) c1 M.at_ M.fn c2 (.inl rfl) t1 t2 t3 run
/-- -x -/
theorem un_own (M : OwnM X.K C "__neg__" f) (F : FnOk X.prog X.w X.K X.mg X.base CX k f fd ps sp) (hr : Room k X.A) (hb : Binds X.K fd ps []) (hx : Passes CX X E) :
    UnR X (unaryOp .USub) (fun x H Q => ∃ a dx fs, x = .ref a ∧ H a = some (.ins C dx fs) ∧ sp [x] H Q E) := by
  intro pins s σ H x v Q I rx h
  obtain ⟨a, dx, fs, rfl, ha, hs⟩ := h
  obtain rfl : v = Value.ref a := rx
  obtain ⟨mA, O, _⟩ := ins_get I.hok ha
  obtain ⟨od, J, _⟩ := O.look
  obtain ⟨m, hF⟩ := I.fr
  exact PySem.W.ksp_neg hF I.ok.mod.kin J M.at_ M.fn (run_fn (us := [.ref a]) (vs := [.ref a]) (dvs := []) F hr hb .nil hx I (.cons rfl .nil) (by rw [List.append_nil]; exact hs))
/-- abs(x) -/
theorem call_absO (M : OwnM X.K C "__abs__" f) (F : FnOk X.prog X.w X.K X.mg X.base CX k f fd ps sp) (hr : Room (k + 1) X.A) (hb : Binds X.K fd ps []) (hx : Passes CX X.nox E) :
    CallR X (.builtin "abs") (fun xs H Q => ∃ a dx fs, xs = [.ref a] ∧ H a = some (.ins C dx fs) ∧ sp [.ref a] H Q E) := by
  intro pins s σ H xs us Q I r h
  obtain ⟨a, dx, fs, rfl, ha, hs⟩ := h
  obtain ⟨u, rfl, ru⟩ := vals1 r
  obtain rfl : u = Value.ref a := ru
  obtain ⟨mA, O, _⟩ := ins_get I.hok ha
  obtain ⟨od, J, _⟩ := O.look
  have hl := F.len _ _ _ _ hs
  refine abs_own I.kIn J M.at_ M.fn (wpAny_call (codeAny_mono (F.run X.A.in1 X.stack s H ⟨[.ref a], []⟩ [.ref a] [.ref a] Q E hr.in1 I.env0.in1 (by
    have z := hb s [.ref a] I.kIn (by simpa using hl)
    simpa using z) (.cons rfl .nil) hs) fun r s' hq => ?_))
  cases r with
  | error e => exact False.elim (hx pins σ H s e s' (I.wish _) hq)
  | ok fl =>
    cases fl with
    | ret w => exact I.after hq
    | next => exact False.elim hq
    | brk => exact False.elim hq
    | cont => exact False.elim hq
/-- x as a test, an own __bool__ that tells a truth -/
theorem tru_own (M : OwnM X.K C "__bool__" f) (F : FnOk X.prog X.w X.K X.mg X.base CX k f fd ps sp) (hr : Room k X.A) (hb : Binds X.K fd ps []) (hx : Passes CX X E) :
    TruR X (fun x H Q => ∃ a dx fs, x = .ref a ∧ H a = some (.ins C dx fs) ∧ sp [x] H (fun v H' => ∃ b, v = .bl b ∧ Q b H') E) := by
  intro pins s σ H x v Q I rx h
  obtain ⟨a, dx, fs, rfl, ha, hs⟩ := h
  obtain rfl : v = Value.ref a := rx
  obtain ⟨mA, O, _⟩ := ins_get I.hok ha
  obtain ⟨od, J, _⟩ := O.look
  obtain ⟨m, hF⟩ := I.fr
  refine PySem.W.truthy_K hF I.ok.mod.kin J M.at_ M.fn (thn (run_fn (us := [.ref a]) (vs := [.ref a]) (dvs := []) F hr hb .nil hx I (.cons rfl .nil) (by rw [List.append_nil]; exact hs)) fun u s' z => ?_)
  obtain ⟨w', H', I', rw', b, rfl, q⟩ := z
  obtain rfl : u = Value.bool b := rw'
  exact ⟨H', I', q⟩
end
end K1

namespace K1
open PySem PySem.Spec PyProof.Rows L2

section
open PySem.W PySem.Calls
variable {prog : Program} {w : World} {A : Around} {E : Value → Shared → Prop} {s : Shared} {K : Frag} {x C f : Addr} {ox : Obj} {od : Option Obj}
/-- bool(o), an own __bool__ -/
theorem bool_own {Q : Value → Shared → Prop} {h0 : Heap} {L : Addr} {m : Str → Option Value} (F : Fr h0 L s.heap m) (X0 : K.In h0) (I : InstAt s.heap x ox C od) (hs : findIn K (.ref C) "__bool__" = some (some (.ref f))) (hf : isFn K (.ref f) = true)
    (h : wpAny (model prog w) A.in1.in1 (call (.ref f) [.ref x]) (PySem.W.BoolBack fun b s' => Q (.bool b) s') E s) : wpAny (model prog w) A (call (.type "bool") [.ref x]) Q E s := by
  refine callType_codes (T := "bool") (Bi := Builtin.«object.__init__») (Q₁ := fun r s₁ => ∃ b, r = .bool b ∧ Q r s₁) PySem.F.called_bool (PySem.F.typeCall_bool_1 _) PySem.F.entry_object_init ?_ ?_
  · refine codeAny_of_tree ?_
    show wpAny _ _ (do checkBuiltinCall "bool.__new__" ⟨[.type "bool", .ref x], []⟩; again (.builtin "bool.__new__" ⟨[.type "bool", .ref x], []⟩)) _ _ s
    refine wpAny_bind (wpAny_of_eq (PySem.F.newCall_bool_1 _) (wpAny_pure ⟨plainId_quiet (by decide +kernel) _, codeAny_builtin PySem.F.entry_bool_new ?_⟩))
    rw [Around.under_plainId (by decide +kernel) _]
    unfold Builtin.«bool.__new__»
    have f1 := PySem.F.conv_sub_bool
    have tr : ∀ {P : Bool → Shared → Prop} {E2 : Value → Shared → Prop}, (∀ b s', Q (.bool b) s' → P b s') → (∀ e s', E e s' → E2 e s') → wpAny (model prog w) A.in1.in1 (truthy (.ref x)) P E2 s := fun p e => wpAny_mono (truthy_K F X0 I hs hf h) p e
    clear h hs hf I X0 F
    obtain ⟨hp, g, d, tk, os⟩ := s
    repeat (any_goals (first | assumption | (with_reducible refine tr (fun b s' hb => ?_) (fun e s' he => ?_)) | wp_step))
    all_goals first | exact ⟨_, rfl, hb⟩ | exact he | skip
  · rintro obj s₁ ⟨b, rfl, hq⟩
    exact ⟨rfl, PySem.F.args_object_init_2 _ _, object_init_meets PySem.F.called_bool.init.lookup PySem.F.called_bool.made (by decide) prog w A.in1 _ s₁ ⟨rfl, rfl, hq⟩⟩
end

section
variable {X : Cx} {CX : CXT} {k : Nat} {C f : Addr} {fd : FuncData} {ps : List Str} {sp : Sp} {E : XK}
/-- bool(x) -/
theorem call_boolO (M : OwnM X.K C "__bool__" f) (F : FnOk X.prog X.w X.K X.mg X.base CX k f fd ps sp) (hr : Room (k + 2) X.A) (hb : Binds X.K fd ps []) (hx : Passes CX X.nox E) :
    CallR X (.type "bool") (fun xs H Q => ∃ a dx fs, xs = [.ref a] ∧ H a = some (.ins C dx fs) ∧ sp [.ref a] H (fun v H' => ∃ b, v = .bl b ∧ Q (.bl b) H') E) := by
  intro pins s σ H xs us Q I r h
  obtain ⟨a, dx, fs, rfl, ha, hs⟩ := h
  obtain ⟨u, rfl, ru⟩ := vals1 r
  obtain rfl : u = Value.ref a := ru
  obtain ⟨mA, O, _⟩ := ins_get I.hok ha
  obtain ⟨od, J, _⟩ := O.look
  obtain ⟨m, hF⟩ := I.fr
  have hl := F.len _ _ _ _ hs
  refine bool_own hF I.ok.mod.kin J M.at_ M.fn (wpAny_call (codeAny_mono (F.run X.A.in1.in1 X.stack s H ⟨[.ref a], []⟩ [.ref a] [.ref a] _ E hr.in1.in1 I.env0.in1.in1 (by
    have z := hb s [.ref a] I.kIn (by simpa using hl)
    simpa using z) (.cons rfl .nil) hs) fun r s' hq => ?_))
  cases r with
  | error e => exact False.elim (hx pins σ H s e s' (I.wish _) hq)
  | ok fl =>
    cases fl with
    | ret u =>
      obtain ⟨v, H2, I2, rv, b, rfl, q⟩ := I.after hq
      obtain rfl : u = Value.bool b := rv
      exact ⟨.bl b, H2, I2, rfl, q⟩
    | next => exact False.elim hq
    | brk => exact False.elim hq
    | cont => exact False.elim hq
/-- repr(x) -/
theorem call_reprO (M : OwnM X.K C "__repr__" f) (F : FnOk X.prog X.w X.K X.mg X.base CX k f fd ps sp) (hr : Room (k + 1) X.A) (hb : Binds X.K fd ps []) (hx : Passes CX X.nox E) :
    CallR X (.builtin "repr") (fun xs H Q => ∃ a dx fs, xs = [.ref a] ∧ H a = some (.ins C dx fs) ∧ sp [.ref a] H (fun v H' => ∃ t, v = .str t ∧ Q (.str t) H') E) := by
  intro pins s σ H xs us Q I r h
  obtain ⟨a, dx, fs, rfl, ha, hs⟩ := h
  obtain ⟨u, rfl, ru⟩ := vals1 r
  obtain rfl : u = Value.ref a := ru
  obtain ⟨mA, O, _⟩ := ins_get I.hok ha
  obtain ⟨od, J, _⟩ := O.look
  obtain ⟨m, hF⟩ := I.fr
  have hl := F.len _ _ _ _ hs
  have un := hr.in1.un
  refine PySem.W.repr_K (by omega) hF I.ok.mod.kin J M.at_ M.fn (wpAny_call (codeAny_mono (F.run X.A.in1 X.stack s H ⟨[.ref a], []⟩ [.ref a] [.ref a] _ E hr.in1 I.env0.in1 (by
    have z := hb s [.ref a] I.kIn (by simpa using hl)
    simpa using z) (.cons rfl .nil) hs) fun r s' hq => ?_))
  cases r with
  | error e => exact False.elim (hx pins σ H s e s' (I.wish _) hq)
  | ok fl =>
    cases fl with
    | ret u =>
      obtain ⟨v, H2, I2, rv, t, rfl, q⟩ := I.after hq
      obtain ⟨tk, rfl⟩ := rv
      exact ⟨.str t, H2, I2, ⟨tk, rfl⟩, q⟩
    | next => exact False.elim hq
    | brk => exact False.elim hq
    | cont => exact False.elim hq
/-- str(x) -/
theorem call_strO (M : OwnM X.K C "__str__" f) (F : FnOk X.prog X.w X.K X.mg X.base CX k f fd ps sp) (hr : Room (k + 2) X.A) (hb : Binds X.K fd ps []) (hx : Passes CX X.nox E) :
    CallR X (.type "str") (fun xs H Q => ∃ a dx fs, xs = [.ref a] ∧ H a = some (.ins C dx fs) ∧ sp [.ref a] H (fun v H' => ∃ t, v = .str t ∧ Q (.str t) H') E) := by
  intro pins s σ H xs us Q I r h
  obtain ⟨a, dx, fs, rfl, ha, hs⟩ := h
  obtain ⟨u, rfl, ru⟩ := vals1 r
  obtain rfl : u = Value.ref a := ru
  obtain ⟨mA, O, _⟩ := ins_get I.hok ha
  obtain ⟨od, J, _⟩ := O.look
  have hl := F.len _ _ _ _ hs
  have un := hr.in1.in1.un
  refine PySem.W.kso_call (by omega) I.kIn J M.at_ M.fn (wpAny_call (codeAny_mono (F.run X.A.in1.in1 X.stack s H ⟨[.ref a], []⟩ [.ref a] [.ref a] _ E hr.in1.in1 I.env0.in1.in1 (by
    have z := hb s [.ref a] I.kIn (by simpa using hl)
    simpa using z) (.cons rfl .nil) hs) fun r s' hq => ?_))
  cases r with
  | error e => exact False.elim (hx pins σ H s e s' (I.wish _) hq)
  | ok fl =>
    cases fl with
    | ret u =>
      obtain ⟨v, H2, I2, rv, t, rfl, q⟩ := I.after hq
      obtain ⟨tk, rfl⟩ := rv
      exact ⟨.str t, H2, I2, ⟨tk, rfl⟩, q⟩
    | next => exact False.elim hq
    | brk => exact False.elim hq
    | cont => exact False.elim hq
/-- x == y, x such an instance -/
def rEqO (K : PySem.W.Frag) (C : Addr) (sp : Sp) (E : XK) : R2 := fun x y H Q => ∃ a dx fs t, x = .ref a ∧ H a = some (.ins C dx fs) ∧ TyOf K H y t ∧ PySem.W.notFirst K C t = true ∧ sp [x, y] H Q E
theorem op_eqO (M : OwnM X.K C "__eq__" f) (F : FnOk X.prog X.w X.K X.mg X.base CX k f fd ps sp) (hr : Room k X.A) (hb : Binds X.K fd ps []) (hx : Passes CX X E) : OpR X (compareOp .Eq) (rEqO X.K C sp E) := by
  intro pins s σ H x y v u Q I rx ry h
  obtain ⟨a, dx, fs, t, rfl, ha, ty, hn, hs⟩ := h
  obtain rfl : v = Value.ref a := rx
  obtain ⟨mA, O, _⟩ := ins_get I.hok ha
  obtain ⟨od, J, _⟩ := O.look
  obtain ⟨m, hF⟩ := I.fr
  refine PySem.W.cmp_ofEq (PySem.W.cmp_K (op := .Eq) hr.units0 hF I.ok.mod.kin J (ty_look I ry ty) hn M.at_ M.fn ?_)
  exact thn (run_fn (us := [.ref a, u]) (vs := [.ref a, y]) (dvs := []) F hr hb .nil hx I (.cons rfl (.cons ry .nil)) (by rw [List.append_nil]; exact hs)) fun _ _ z => ep_back z
end

/-! ### C.m(e, ..), a static method -/
structure SMet (K : PySem.W.Frag) (C : Addr) (m : Str) (g : Addr) : Prop where
  p : ∃ p, PySem.W.findCls K (.ref C) (.type "type") m = some (.get (.builtin "staticmethod.__get__") (.ref p) .none (.ref C)) ∧ ∃ rest, PySem.W.recIn K p "staticmethod" = some (.ref g :: rest)
  kp : PySem.W.keepIn K (.ref g) = true
def tSMeth (C : Addr) (sp : Sp) (E : XK) (ta : TE) (t : TA) : TE := fun σ H Q => ta σ H fun x H1 => x = .ref C ∧ t σ H1 fun vs H2 => sp vs H2 Q E
theorem pe_smeth {X : Cx} {CX : CXT} {k : Nat} {C g : Addr} {fd : FuncData} {ps : List Str} {sp : Sp} {E : XK} {o e : Expr} {es : List Expr} {m : Str} {pos apos : Pos} {ta : TE} {t : TA} {pl : Sem Bool}
    (he : PE X o ta) (r : ClX.CRead X.K C (.type "type")) (c : SMet X.K C m g) (F : FnOk X.prog X.w X.K X.mg X.base CX k g fd ps sp) (hr : Room k X.A) (hb : Binds X.K fd ps []) (hx : Passes CX X E) (ha : PA X (e :: es) t)
    (hst : starEach (e :: es) X.env = (false, eval e X.env) :: starEach es X.env := by rfl) (hpl : (backTo pos (starEach es X.env)).any (·.1) = false := by rfl)
    (ht : eval (.Call (.Attribute o m apos) (e :: es) [] pos) X.env = (eval o X.env >>= fun ov => standAt apos.atName >>= fun _ => holding [ov] (getMethod ov m pl) >>= fun fg =>
      callWith pos fg.1 fg.2 (backTo pos (starEach (e :: es) X.env)) (backToKw pos (keywordEach [] X.env))) := by rfl) :
    PE X (.Call (.Attribute o m apos) (e :: es) [] pos) (tSMeth C sp E ta t) := by
  refine ⟨fun pins s σ H Q I h => ?_⟩
  refine PySem.W.methodCall_KW (pl := pl) (thn (he.run pins s σ H _ I h) fun u s1 ⟨x, H1, I1, rx, ex, q⟩ => ?_) ht
  subst ex
  obtain rfl : u = Value.ref C := rx
  obtain ⟨p, c1, rest, c2⟩ := c.p
  refine PySem.W.method_cls I1.kIn r.ga (PySem.W.cls_bind I1.kIn r.rd c1 (wpAny_call (PySem.W.sm_get (s := { s1 with toks := s1.toks + 1 }) I1.kIn c2 (PySem.W.handed_on rfl ?_))))
  have I2 := I1.tok (s1.toks + 1)
  refine PySem.W.callWith_K (first := []) (h₀ := X.base) I.ok.mod.kin c.kp (thn (ha.run pos pins _ σ H1 _ I2 q) fun us s3 ⟨vs, H3, I3, rv, q3⟩ => ⟨I3.kIn, ?_⟩) hst hpl
  exact run_fn F hr hb .nil hx I3 rv (by rw [List.append_nil]; exact q3)
end K1

/-! x(lambda: body, 'text'): a def that is handed a lambda and a text. -/
namespace K1
open PySem PySem.Spec PyProof.Rows L2 LamX

/-- x(), in the def that got the lambda; what is raised is wished for at that def's slots -/
theorem pe_act2 {X : Cx} {pins0 : List (Addr × Obj)} {σ0 : L2.St} {H0 : Hp} {s0 : Shared} {CXg : CXT} {Eg : XK} {Ng : List Str} {qg a : Str} {sg scope : Scope} {g f c2 : Addr} {cdg pm ctv : Value} {params : Arguments} {body : Expr} {k i : Nat} {pn : List (Addr × Obj)} {xe : Value → Shared → Prop} {W : WX}
    {tb : XK → TE} {p1 p2 : Pos} (I0 : Inv X pins0 σ0 H0 s0) (L : LamS X.env.scope scope) (hf : s0.heap.get? f = some (PySem.W.kla_obj "<lambda>" (X.env.qual ++ "<lambda>") params body scope (cloFrom X.env.cells scope.names []) pm c2 ctv)) (nf : H0 f = none) (ns : f ∉ frs X.stack)
    (nb : bindArgs (PySem.W.kla_fn "<lambda>" (X.env.qual ++ "<lambda>") params body scope (cloFrom X.env.cells scope.names []) pm (.ref c2) ctv) ⟨[], []⟩ = pure []) (tk : Takes ((cxOf CXg X.prog X.w X.K X.mg X.base Ng qg sg g cdg X.A X.stack s0 H0 Eg).tr pn xe) W)
    (hr : Room (k + 1) (X.A.deeper (envOfC qg sg s0.heap.objs.size g cdg))) (hb : ∀ (A : Around) (outer : List Env) (s : Shared) (H : Hp) (E : XK), Room k (A.deeper (lamEnv X scope s.heap.objs.size f c2)) → PE (lamCx X A outer s H E scope f c2) body (tb E))
    (hN : Ng[i]? = some a) (hv : Vis sg a) (hd : (a == ("__debug__" : Str)) = false) (hcd : (a == ("__classdict__" : Str)) = false) :
    PE ((cxOf CXg X.prog X.w X.K X.mg X.base Ng qg sg g cdg X.A X.stack s0 H0 Eg).tr pn xe) (.Call (.Name a p1) [] [] p2) (fun σ H Q => σ[i]? = some (some (.ref f)) ∧ H c2 = some (CodeO c2 (X.env.qual ++ "<lambda>")) ∧ tb (WE W σ) σ0 H Q) := by
  refine ⟨fun pZ sZ σZ HZ Q IZ ⟨z1, z2, z3⟩ => ?_⟩
  refine wpAny_Call_Name_kw (thn ((pe_var (pos := p1) (i := i) hN hv hd hcd).run pZ sZ σZ HZ (fun v H1 => v = .ref f ∧ H1 = HZ) IZ ⟨.ref f, z1, rfl, rfl⟩) fun u s1 ⟨v, H1, I1, r1, e1, e2⟩ => ?_)
  subst e1 e2
  obtain rfl : u = Value.ref f := r1
  have at1 : s1.heap.get? f = some (PySem.W.kla_obj "<lambda>" (X.env.qual ++ "<lambda>") params body scope (cloFrom X.env.cells scope.names []) pm c2 ctv) := I1.base.keep f _ hf nf ns fun z => nomatch (show f ∈ ([] : List Addr) from z)
  refine PySem.W.callWith_F0 ⟨_, _, _, _, at1⟩ ?_
  have U : Un (frs X.stack) [] H0 H1 s0.heap s1.heap := I1.base
  obtain ⟨⟨oc, cvs, ct, g1, g2, g3⟩, _, _⟩ := I1.hok c2 _ z2
  have run : codeAny (model X.prog X.w) (X.A.deeper (envOfC qg sg s0.heap.objs.size g cdg)) (.call (.ref f) ⟨[], []⟩) (CR (L2.CX X.prog X.w) (envOfC qg sg s0.heap.objs.size g cdg :: X.stack) X.prog X.w H1 s1 Q (WE W σZ)) s1 := by
    refine PySem.W.kla_callFunE hr.depth at1 rfl L.co L.gen rfl ⟨c2, oc, cvs, ct, rfl, g1, g2, g3⟩ (by
      rw [nb]
      refine wpAny_pure (wpAny_newFunctionEnv (fun y hy => (L.own y hy).2) (fun y hy => absurd hy (by simp)) (fun hp hns hsb => ⟨I1.nolimit.fresh _ hsb, ?_⟩) L.kind)
      have kept : ∀ b o, s1.heap.get? b = some o → hp.get? b = some o := fun b o q => hsb.extBut b o (Nat.ne_of_lt (Heap.lt_size q)) (Heap.get?_push_of_some _ q)
      have J : Inv (lamCx X (X.A.deeper (envOfC qg sg s0.heap.objs.size g cdg)) (envOfC qg sg s0.heap.objs.size g cdg :: X.stack) s1 H1 (WE W σZ) scope f c2) [] σ0 H1 { s1 with heap := hp, toks := s1.toks + ([] : List (Str × Value)).length } := lam_start2 I0 L I1.env0 hr.hd U hns kept
      show codeAny _ _ (.expr body (lamEnv X scope s1.heap.objs.size f c2)) _ _
      refine PySem.W.kla_codeExpr (wpAny_mono ((hb _ _ s1 H1 _ (hr.deeper _)).run [] _ _ H1 Q J z3) (fun v s2 ⟨w1, H2, J2, rv, q2⟩ => ⟨w1, H2, J2.os, J2.bare, J2.base, J2.hok, rv, q2⟩) fun _ _ q => q))
  refine wpAny_call (codeAny_mono run fun r s2 hq => ?_)
  rcases r with e | fl
  · exact passAt tk σZ pZ H1 s1 e s2 I1 hq
  · cases fl <;> first | exact I1.after hq | exact False.elim hq
/-- the def that calls what it got, beside a text y -/
def Gives2 (X : Cx) (Ng : List Str) (x : Str) (sg : Scope) (g : Addr) (cdg : Value) (bg : List Stmt) (a : Str) (q : Str) (y : Str) (TT : (XK → Hp → VK → Prop) → Hp → VK → Prop) : Prop :=
  ∀ (f c' : Addr) (s : Shared) (H : Hp) (Q : VK) (tl : XK → Hp → VK → Prop),
    (∀ (W : WX) (pn : List (Addr × Obj)) (xe : Value → Shared → Prop) (p1 p2 : Pos), Takes ((cxOf C8.CX0 X.prog X.w X.K X.mg X.base Ng x sg g cdg X.A X.stack s H C8.E0).tr pn xe) W →
      PE ((cxOf C8.CX0 X.prog X.w X.K X.mg X.base Ng x sg g cdg X.A X.stack s H C8.E0).tr pn xe) (.Call (.Name a p1) [] [] p2) (fun σZ HZ Q => σZ[0]? = some (some (.ref f)) ∧ HZ c' = some (CodeO c' q) ∧ tl (WE W σZ) HZ Q)) →
    H c' = some (CodeO c' q) → TT tl H Q →
    ∃ t, PSs (cxOf C8.CX0 X.prog X.w X.K X.mg X.base Ng x sg g cdg X.A X.stack s H C8.E0).nox bg t ∧ t { nx := fun _ H' => Q .non H', rt := Q } (L2.start Ng [.ref f, .str y]) H
section
variable {X : Cx}
theorem pe_lam2 {T : List (Addr × Str)} {TT : (XK → Hp → VK → Prop) → Hp → VK → Prop} {x a b y : Str} {g c P : Addr} {k j : Nat} {pg : Arguments} {bg : List Stmt} {sg : Scope} {dV kV doc pm cdv ct oc : Value} {an od : Option Addr} {osl : Array (Option Value)} {Ng : List Str}
    {params : Arguments} {body : Expr} {scope : Scope} {t : XK → TE} {p lpos cpos pos : Pos} (hg : Gl X x) (hm : X.mg x = some (.ref g)) (hk : PySem.W.keepIn X.K (.ref g) = true)
    (lk : X.K.lookup g = some ⟨oc, od, .func (PySem.W.fnOf x x pg bg sg dV kV doc pm an cdv ct), osl⟩) (hcg : PySem.W.codeIn X.K cdv x = true) (hb : L2.Binds X.K (PySem.W.fnOf x x pg bg sg dV kV doc pm an cdv ct) [a, b] []) (Sg : FnScope Ng [a, b] sg) (hNg : Ng[0]? = some a) (hva : Vis sg a)
    (hG : Gives2 X Ng x sg g cdv bg a (X.env.qual ++ "<lambda>") y TT)
    (TB : TabB X.base X.mg c P) (hcode : X.env.code = .ref c) (hmT : (P, X.env.qual ++ "<lambda>") ∈ T) (hu : ∀ p ∈ T, p.1 = P → p.2 = X.env.qual ++ "<lambda>") (hr : Room (k + 2) X.A) (L : LamS X.env.scope scope) (hdef : defaultsOf params X.env = ([], []))
    (hbind : ∀ (q : Str) (cl : List (Str × Addr)) (pm cv ctv : Value), bindArgs (PySem.W.kla_fn "<lambda>" q params body scope cl pm cv ctv) ⟨[], []⟩ = pure [])
    (hbody : ∀ (A : Around) (outer : List Env) (s : Shared) (H : Hp) (E : XK) (f c' : Addr), Room k (A.deeper (lamEnv X scope s.heap.objs.size f c')) → PE (lamCx X A outer s H E scope f c') body (t E))
    (hdb : (x == ("__debug__" : Str)) = false := by decide) (hd : (a == ("__debug__" : Str)) = false := by decide) (hcd : (a == ("__classdict__" : Str)) = false := by decide) :
    PE X (.Call (.Name x p) [.Lambda params body scope lpos, .Constant (.str y) j cpos] [] pos) (tLam T TT t) := by
  refine ⟨fun pins s σ H Q I ⟨hT, h⟩ => ?_⟩
  refine wpAny_Call_Name_kw (ld_glob I hg hm ?_ hdb)
  refine PySem.W.callWith_K (h₀ := X.base) I.ok.mod.kin hk ?_ (by rfl) (by rfl)
  show wpAny _ _ (spliced ((false, eval (.Lambda params body scope lpos) X.env) :: (backTo pos (starEach [.Constant (.str y) j cpos] X.env)))) _ _ s
  refine Calls.spliced_cons (lam_make2 I TB hcode hmT hu hT hdef (L.has I.ok) fun f c' pm' ctv H1 s' I1 eN T1 hf hfn hfr hco => ?_)
  refine Calls.spliced_cons (Calls.Constant_str (k := j) (pos := cpos) ?_)
  have I2 : Inv X pins σ H1 { s' with toks := s'.toks + 1 } := I1.tok _
  refine Calls.spliced_nil ⟨I2.kIn, ?_⟩
  have rc : codeAny (model X.prog X.w) X.A (.call (.ref g) ⟨[.ref f, .str y s'.toks], []⟩) (CR C8.CX0 X.stack X.prog X.w H1 { s' with toks := s'.toks + 1 } Q C8.E0) { s' with toks := s'.toks + 1 } := by
    refine run_ofS (N := Ng) (ps := [a, b]) (us := [.ref f, .str y s'.toks]) (vs := [.ref f, .str y]) lk hcg Sg hr I2.env0 (hb _ [.ref f, .str y s'.toks] I2.kIn rfl) (.cons rfl (.cons ⟨_, rfl⟩ .nil)) rfl fun hr2 => ?_
    obtain ⟨t', ht', hq'⟩ := hG f c' _ H1 Q (fun E H' Q' => t E σ H' Q')
      (fun W pn xe p1 p2 tk => pe_act2 (i := 0) I2 L hf hfn hfr (hbind _ _ _ _ _) tk hr2 (fun A outer s H E hr3 => hbody A outer s H E f c' hr3) hNg hva hd hcd) hco (h H1 eN T1)
    exact ⟨t', ht'.nox, hq'⟩
  refine wpAny_call (codeAny_mono rc fun r s2 hq => ?_)
  cases r with
  | error e => exact (show False from hq).elim
  | ok fl => cases fl <;> first | exact I2.after hq | exact (show False from hq).elim
end
end K1

/-! Ratios in lowest terms: the mathematics. -/
namespace K1

/-- the common divisor, with the bottom's sign -/
def com (t b : Int) : Int := if b > 0 then (Nat.gcd t.natAbs b.natAbs : Int) else -(Nat.gcd t.natAbs b.natAbs : Int)
def rT (t b : Int) : Int := t.fdiv (com t b)
def rB (t b : Int) : Int := b.fdiv (com t b)

theorem gcd_pos {t b : Int} (h : b ≠ 0) : 0 < (Nat.gcd t.natAbs b.natAbs : Int) := by
  have := Nat.gcd_pos_of_pos_right t.natAbs (show 0 < b.natAbs by omega)
  omega
theorem com_ne {t b : Int} (h : b ≠ 0) : com t b ≠ 0 := by
  have := gcd_pos (t := t) h
  unfold com
  split <;> omega
theorem com_dvd_t (t b : Int) : com t b ∣ t := by
  have h : (Nat.gcd t.natAbs b.natAbs : Int) ∣ t := Int.ofNat_dvd_left.mpr (Nat.gcd_dvd_left _ _)
  unfold com
  split
  · exact h
  · exact Int.neg_dvd.mpr h
theorem com_dvd_b (t b : Int) : com t b ∣ b := by
  have h : (Nat.gcd t.natAbs b.natAbs : Int) ∣ b := Int.ofNat_dvd_left.mpr (Nat.gcd_dvd_right _ _)
  unfold com
  split
  · exact h
  · exact Int.neg_dvd.mpr h
theorem fdiv_mul {a c : Int} (h : c ∣ a) : a.fdiv c * c = a := by
  obtain ⟨k, rfl⟩ := h
  by_cases hc : c = 0
  · subst hc; simp
  · rw [Int.mul_fdiv_cancel_left _ hc, Int.mul_comm]
theorem rT_mul (t b : Int) : rT t b * com t b = t := fdiv_mul (com_dvd_t t b)
theorem rB_mul (t b : Int) : rB t b * com t b = b := fdiv_mul (com_dvd_b t b)
theorem rB_pos {t b : Int} (h : b ≠ 0) : 0 < rB t b := by
  have e := rB_mul t b
  have g := gcd_pos (t := t) h
  unfold com at e
  by_cases hb : b > 0
  · rw [if_pos hb] at e
    exact Int.pos_of_mul_pos_left (by omega : 0 < rB t b * _) g |> fun z => z
  · rw [if_neg hb, Int.mul_neg] at e
    have z : 0 < rB t b * (Nat.gcd t.natAbs b.natAbs : Int) := by omega
    exact Int.pos_of_mul_pos_left z g

theorem com_abs (t b : Int) : (com t b).natAbs = Nat.gcd t.natAbs b.natAbs := by
  unfold com
  split
  · exact Int.natAbs_natCast _
  · rw [Int.natAbs_neg, Int.natAbs_natCast]
theorem red_cop {t b : Int} (h : b ≠ 0) : Nat.gcd (rT t b).natAbs (rB t b).natAbs = 1 := by
  have e1 := congrArg Int.natAbs (rT_mul t b)
  have e2 := congrArg Int.natAbs (rB_mul t b)
  rw [Int.natAbs_mul, com_abs] at e1 e2
  have g := Nat.gcd_pos_of_pos_right t.natAbs (show 0 < b.natAbs by omega)
  have z : Nat.gcd (rT t b).natAbs (rB t b).natAbs * Nat.gcd t.natAbs b.natAbs = 1 * Nat.gcd t.natAbs b.natAbs := by
    rw [← Nat.gcd_mul_right, e1, e2, Nat.one_mul]
  exact Nat.eq_of_mul_eq_mul_right g z
theorem low_unique {p q p' q' : Int} (hq : 0 < q) (hq' : 0 < q') (h : Nat.gcd p.natAbs q.natAbs = 1) (h' : Nat.gcd p'.natAbs q'.natAbs = 1) (e : p * q' = p' * q) : p = p' ∧ q = q' := by
  have n := congrArg Int.natAbs e
  rw [Int.natAbs_mul, Int.natAbs_mul] at n
  have d1 : q.natAbs ∣ q'.natAbs := Nat.Coprime.dvd_of_dvd_mul_left (k := q.natAbs) (m := p.natAbs) (show Nat.gcd q.natAbs p.natAbs = 1 by rw [Nat.gcd_comm]; exact h) ⟨p'.natAbs, by rw [n, Nat.mul_comm]⟩
  have d2 : q'.natAbs ∣ q.natAbs := Nat.Coprime.dvd_of_dvd_mul_left (k := q'.natAbs) (m := p'.natAbs) (show Nat.gcd q'.natAbs p'.natAbs = 1 by rw [Nat.gcd_comm]; exact h') ⟨p.natAbs, by rw [← n, Nat.mul_comm]⟩
  have eq : q = q' := by
    have := Nat.dvd_antisymm d1 d2
    omega
  subst eq
  exact ⟨Int.eq_of_mul_eq_mul_right (by omega) e, rfl⟩
/-- equal by the cross: told alike -/
theorem red_eq {t b t' b' : Int} (h : b ≠ 0) (h' : b' ≠ 0) (e : t * b' = t' * b) : rT t b = rT t' b' ∧ rB t b = rB t' b' := by
  refine low_unique (rB_pos h) (rB_pos h') (red_cop h) (red_cop h') ?_
  have c1 := com_ne (t := t) h
  have c2 := com_ne (t := t') h'
  have e1 := rT_mul t b
  have e2 := rB_mul t b
  have e3 := rT_mul t' b'
  have e4 := rB_mul t' b'
  have z : (rT t b * rB t' b') * (com t b * com t' b') = (rT t' b' * rB t b) * (com t b * com t' b') := by
    have l : (rT t b * rB t' b') * (com t b * com t' b') = (rT t b * com t b) * (rB t' b' * com t' b') := by ac_rfl
    have r : (rT t' b' * rB t b) * (com t b * com t' b') = (rT t' b' * com t' b') * (rB t b * com t b) := by ac_rfl
    rw [l, r, e1, e2, e3, e4, e]
  exact Int.eq_of_mul_eq_mul_right (Int.mul_ne_zero c1 c2) z
theorem red_low {t b : Int} (hb : 0 < b) (h : Nat.gcd t.natAbs b.natAbs = 1) : rT t b = t ∧ rB t b = b := by
  have c : com t b = 1 := by unfold com; rw [if_pos hb, h]; rfl
  unfold rT rB
  rw [c]
  exact ⟨Int.fdiv_one _, Int.fdiv_one _⟩
theorem red_one (t : Int) : rT t 1 = t ∧ rB t 1 = 1 := red_low (by decide) (by simp)
theorem cross {t b : Int} (h : b ≠ 0) : rT t b * b = t * rB t b := by
  have e1 := rT_mul t b
  have e2 := rB_mul t b
  have : rT t b * (rB t b * com t b) = rT t b * com t b * rB t b := by ac_rfl
  rw [e1, e2] at this
  exact this
theorem rT_zero {t b : Int} (h : b ≠ 0) : rT t b = 0 ↔ t = 0 := by
  have e := rT_mul t b
  constructor
  · intro z; rw [z] at e; simpa using e.symm
  · intro z; subst z; unfold rT; exact Int.zero_fdiv _
/-! bounds -/
theorem natAbs_le_mul {p c : Int} (hc : c ≠ 0) : p.natAbs ≤ (p * c).natAbs := by
  rw [Int.natAbs_mul]
  exact Nat.le_mul_of_pos_right _ (by omega)
theorem rT_le {t b : Int} (h : b ≠ 0) : (rT t b).natAbs ≤ t.natAbs := by
  have := natAbs_le_mul (p := rT t b) (com_ne (t := t) h)
  rwa [rT_mul] at this
theorem rB_le {t b : Int} (h : b ≠ 0) : (rB t b).natAbs ≤ b.natAbs := by
  have := natAbs_le_mul (p := rB t b) (com_ne (t := t) h)
  rwa [rB_mul] at this
/-! Euclid's loop, by the floor's rest -/
theorem euclid_step (a b : Int) : Int.gcd b (a.fmod b) = Int.gcd a b := by
  rw [Int.fmod_def, Int.gcd_sub_mul_left_right, Int.gcd_comm]
theorem fmod_small {a b : Int} (h : b ≠ 0) : (a.fmod b).natAbs < b.natAbs := by
  by_cases hb : 0 < b
  · have h1 := Int.fmod_nonneg_of_pos a hb
    have h2 := Int.fmod_lt_of_pos a hb
    omega
  · have e : a.fmod b = -((-a).fmod (-b)) := by
      have z := Int.neg_fmod_neg (a := a) (b := b)
      omega
    have h1 := Int.fmod_nonneg_of_pos (-a) (show 0 < -b by omega)
    have h2 := Int.fmod_lt_of_pos (-a) (show 0 < -b by omega)
    omega

section
variable {a0 a1 b0 b1 : Int} (ha : a1 ≠ 0) (hb : b1 ≠ 0)
include ha hb
theorem mul_ne : a1 * b1 ≠ 0 := Int.mul_ne_zero ha hb
theorem qq_ne : rB a0 a1 * rB b0 b1 ≠ 0 := Int.mul_ne_zero (by have := rB_pos (t := a0) ha; omega) (by have := rB_pos (t := b0) hb; omega)
theorem sum_red : rT (rT a0 a1 * rB b0 b1 + rT b0 b1 * rB a0 a1) (rB a0 a1 * rB b0 b1) = rT (a0 * b1 + b0 * a1) (a1 * b1) ∧ rB (rT a0 a1 * rB b0 b1 + rT b0 b1 * rB a0 a1) (rB a0 a1 * rB b0 b1) = rB (a0 * b1 + b0 * a1) (a1 * b1) := by
  refine red_eq (qq_ne ha hb) (mul_ne ha hb) ?_
  have x := cross (t := a0) ha
  have y := cross (t := b0) hb
  have l : (rT a0 a1 * rB b0 b1 + rT b0 b1 * rB a0 a1) * (a1 * b1) = (rT a0 a1 * a1) * (rB b0 b1 * b1) + (rT b0 b1 * b1) * (rB a0 a1 * a1) := by rw [Int.add_mul]; congr 1 <;> ac_rfl
  rw [l, x, y, Int.add_mul]
  congr 1 <;> ac_rfl
theorem dif_red : rT (rT a0 a1 * rB b0 b1 - rT b0 b1 * rB a0 a1) (rB a0 a1 * rB b0 b1) = rT (a0 * b1 - b0 * a1) (a1 * b1) ∧ rB (rT a0 a1 * rB b0 b1 - rT b0 b1 * rB a0 a1) (rB a0 a1 * rB b0 b1) = rB (a0 * b1 - b0 * a1) (a1 * b1) := by
  refine red_eq (qq_ne ha hb) (mul_ne ha hb) ?_
  have x := cross (t := a0) ha
  have y := cross (t := b0) hb
  have l : (rT a0 a1 * rB b0 b1 - rT b0 b1 * rB a0 a1) * (a1 * b1) = (rT a0 a1 * a1) * (rB b0 b1 * b1) - (rT b0 b1 * b1) * (rB a0 a1 * a1) := by rw [Int.sub_mul]; congr 1 <;> ac_rfl
  rw [l, x, y, Int.sub_mul]
  congr 1 <;> ac_rfl
theorem mul_red : rT (rT a0 a1 * rT b0 b1) (rB a0 a1 * rB b0 b1) = rT (a0 * b0) (a1 * b1) ∧ rB (rT a0 a1 * rT b0 b1) (rB a0 a1 * rB b0 b1) = rB (a0 * b0) (a1 * b1) := by
  refine red_eq (qq_ne ha hb) (mul_ne ha hb) ?_
  have x := cross (t := a0) ha
  have y := cross (t := b0) hb
  have l : rT a0 a1 * rT b0 b1 * (a1 * b1) = (rT a0 a1 * a1) * (rT b0 b1 * b1) := by ac_rfl
  rw [l, x, y]
  ac_rfl
theorem over_red (h0 : b0 ≠ 0) : rT (rT a0 a1 * rB b0 b1) (rB a0 a1 * rT b0 b1) = rT (a0 * b1) (a1 * b0) ∧ rB (rT a0 a1 * rB b0 b1) (rB a0 a1 * rT b0 b1) = rB (a0 * b1) (a1 * b0) := by
  have p2 : rT b0 b1 ≠ 0 := fun z => h0 ((rT_zero hb).mp z)
  refine red_eq (Int.mul_ne_zero (by have := rB_pos (t := a0) ha; omega) p2) (Int.mul_ne_zero ha h0) ?_
  have x := cross (t := a0) ha
  have y := cross (t := b0) hb
  have l : rT a0 a1 * rB b0 b1 * (a1 * b0) = (rT a0 a1 * a1) * (b0 * rB b0 b1) := by ac_rfl
  rw [l, x, ← y]
  ac_rfl
/-- how the two stand to each other -/
theorem cmp_red : (rT a0 a1 * rB b0 b1 - rT b0 b1 * rB a0 a1) * ((a1 * b1) * (a1 * b1)) = ((a0 * b1 - b0 * a1) * (a1 * b1)) * (rB a0 a1 * rB b0 b1) := by
  have x := cross (t := a0) ha
  have y := cross (t := b0) hb
  have l : (rT a0 a1 * rB b0 b1 - rT b0 b1 * rB a0 a1) * (a1 * b1) = (a0 * b1 - b0 * a1) * (rB a0 a1 * rB b0 b1) := by
    have l : (rT a0 a1 * rB b0 b1 - rT b0 b1 * rB a0 a1) * (a1 * b1) = (rT a0 a1 * a1) * (rB b0 b1 * b1) - (rT b0 b1 * b1) * (rB a0 a1 * a1) := by rw [Int.sub_mul]; congr 1 <;> ac_rfl
    rw [l, x, y, Int.sub_mul]
    congr 1 <;> ac_rfl
  rw [← Int.mul_assoc, l]
  ac_rfl
theorem qq_pos : 0 < rB a0 a1 * rB b0 b1 := Int.mul_pos (rB_pos ha) (rB_pos hb)
theorem sq_pos : 0 < (a1 * b1) * (a1 * b1) := by
  have h := mul_ne ha hb
  rcases Int.lt_or_gt_of_ne h with z | z
  · exact Int.mul_pos_of_neg_of_neg z z
  · exact Int.mul_pos z z
theorem cmp_zero : rT a0 a1 * rB b0 b1 = rT b0 b1 * rB a0 a1 ↔ (a0 * b1 - b0 * a1) * (a1 * b1) = 0 := by
  have e := cmp_red (a0 := a0) (b0 := b0) ha hb
  have p := qq_pos (a0 := a0) (b0 := b0) ha hb
  have s := sq_pos ha hb
  constructor
  · intro z
    rw [z, Int.sub_self, Int.zero_mul] at e
    rcases Int.mul_eq_zero.mp e.symm with q | q
    · exact q
    · omega
  · intro z
    rw [z, Int.zero_mul] at e
    rcases Int.mul_eq_zero.mp e with q | q
    · omega
    · omega
theorem cmp_lt : rT a0 a1 * rB b0 b1 < rT b0 b1 * rB a0 a1 ↔ (a0 * b1 - b0 * a1) * (a1 * b1) < 0 := by
  have e := cmp_red (a0 := a0) (b0 := b0) ha hb
  have p := qq_pos (a0 := a0) (b0 := b0) ha hb
  have s := sq_pos ha hb
  have k : ∀ {x y : Int}, 0 < y → (x * y < 0 ↔ x < 0) := fun {x y} hy => by
    constructor
    · intro h
      rcases Int.lt_or_le x 0 with q | q
      · exact q
      · have := Int.mul_nonneg q (Int.le_of_lt hy); omega
    · intro h; exact Int.mul_neg_of_neg_of_pos h hy
  have z := k (x := rT a0 a1 * rB b0 b1 - rT b0 b1 * rB a0 a1) s
  rw [e, k p] at z
  omega
end
theorem neg_red {a0 a1 : Int} (ha : a1 ≠ 0) : rT (-rT a0 a1) (rB a0 a1) = rT (-a0) a1 ∧ rB (-rT a0 a1) (rB a0 a1) = rB (-a0) a1 := by
  refine red_eq (by have := rB_pos (t := a0) ha; omega) ha ?_
  rw [Int.neg_mul, Int.neg_mul, cross ha]
theorem abs_red {a0 a1 : Int} (ha : a1 ≠ 0) : rT ((rT a0 a1).natAbs : Int) (rB a0 a1) = rT (a0.natAbs : Int) (a1.natAbs : Int) ∧ rB ((rT a0 a1).natAbs : Int) (rB a0 a1) = rB (a0.natAbs : Int) (a1.natAbs : Int) := by
  have q := rB_pos (t := a0) ha
  refine red_eq (by omega) (by omega) ?_
  have e := congrArg Int.natAbs (cross (t := a0) ha)
  rw [Int.natAbs_mul, Int.natAbs_mul] at e
  have z : ((rB a0 a1).natAbs : Int) = rB a0 a1 := by omega
  have e2 := congrArg (fun n : Nat => (n : Int)) e
  simp only [Int.natCast_mul] at e2
  rw [z] at e2
  exact e2
end K1

/-! The text by places; what the defs need of the module. -/
namespace K1
open PySem PySem.Spec PyProof.Rows L2 LamX

abbrev sWhole : Stmt := inClass (top 26) 2
abbrev sKEq : Stmt := inClass (top 32) 3
/-- a def of the text, no defaults -/
abbrev DefAt (K : PySem.W.Frag) (x qual : Str) (st : Stmt) (f : Addr) (fd : FuncData) : Prop := FunD K x qual (defArgs st) (defBody st) (defScope st) [] [] f fd
/-- the built-in names that the module has not stored; the imported one -/
structure Glob (mg : Str → Option Value) : Prop where
  abs : mg "abs" = none
  int : mg "int" = none
  len : mg "len" = none
  str : mg "str" = none
  bool : mg "bool" = none
  repr : mg "repr" = none
  isi : mg "isinstance" = none
  range : mg "range" = none
  all : mg "all" = none
  lst : mg "list" = none
  tup : mg "tuple" = none
  gcd : mg "gcd" = some (.builtin "math.gcd")

/-- what the written part says of BadRatio, for it to be raised, caught, read -/
structure BadF (K : PySem.W.Frag) (mg : Str → Option Value) (C : Addr) : Prop where
  g : mg "BadRatio" = some (.ref C)
  x : XfC K C
  no : PySem.W.findIn K (.ref C) "part" = some none
  te : PySem.W.exmOne K (.ref C) (.ref C) = some true

end K1

/-! Values that are ratios and values that are none; the makings. -/
namespace K1
open PySem PySem.Spec PyProof.Rows L2 LamX

/-! ### numbers of so many bits -/
def Sm (k : Nat) (n : Int) : Prop := n.natAbs < 2 ^ k
theorem Sm.mono {j k : Nat} {n : Int} (h : Sm j n) (hk : j ≤ k) : Sm k n := Nat.lt_of_lt_of_le h (Nat.pow_le_pow_right (by decide) hk)
theorem Sm.mul {j k : Nat} {m n : Int} (h : Sm j m) (h' : Sm k n) : Sm (j + k) (m * n) := wide_lt h h'
theorem Sm.add {k : Nat} {m n : Int} (h : Sm k m) (h' : Sm k n) : Sm (k + 1) (m + n) := by
  unfold Sm at *
  have : 2 ^ (k + 1) = 2 ^ k + 2 ^ k := by rw [Nat.pow_succ]; omega
  omega
theorem Sm.sub {k : Nat} {m n : Int} (h : Sm k m) (h' : Sm k n) : Sm (k + 1) (m - n) := by
  unfold Sm at *
  have : 2 ^ (k + 1) = 2 ^ k + 2 ^ k := by rw [Nat.pow_succ]; omega
  omega
theorem Sm.neg {k : Nat} {m : Int} (h : Sm k m) : Sm k (-m) := by unfold Sm at *; rw [Int.natAbs_neg]; exact h
theorem Sm.rT {k : Nat} {t b : Int} (h : Sm k t) (hb : b ≠ 0) : Sm k (rT t b) := Nat.lt_of_le_of_lt (rT_le hb) h
theorem Sm.rB {k : Nat} {t b : Int} (h : Sm k b) (hb : b ≠ 0) : Sm k (rB t b) := Nat.lt_of_le_of_lt (rB_le hb) h
theorem Sm.one {k : Nat} (h : 0 < k) : Sm k 1 := by
  unfold Sm
  exact Nat.one_lt_two_pow (by omega)
theorem Sm.mulW {j k : Nat} {m n : Int} (h : Sm j m) (h' : Sm k n) (hj : j + k ≤ 999990 := by omega) : CMulW m n :=
  wide_mul (a := j + 1) (b := k + 1) (h.mono (by omega)) (h'.mono (by omega)) (by omega) (by omega) (by omega)
/-- // of ints by any divisor of less than 9000 bits, below 0 too -/
def CDivZ (_ j : Int) : Prop := j ≠ 0 ∧ j.natAbs.log2 < 9000
theorem op_fdivZ {X : Cx} : OpR X (binaryOp .FloorDiv) (rI CDivZ fun i j => .int (i.fdiv j)) := opI fun i j _ _ _ _ _ hc q => floordiv_int hc.1 q (.inl (PyProof.noPylong_of_log2 hc.2))
theorem Sm.log {k : Nat} {n : Int} (h : Sm k n) (h0 : 0 < k) : n.natAbs.log2 < k := PySem.Flt.log2_lt_of h0 h

/-! ### what stands where a ratio may stand -/
theorem tb_ne : ¬ (("top" : Str) = "bottom") := by decide +kernel
/-- its attributes, as __init__ stores them -/
def fsR (t b : Int) : List (Str × V) := putF "bottom" (.int b) (putF "top" (.int t) [])
theorem fsR_top (t b : Int) : (fsR t b).lookup ("top" : Str) = some (.int t) := by unfold fsR; rw [lookup_putF, if_neg tb_ne, lookup_putF, if_pos rfl]
theorem fsR_bottom (t b : Int) : (fsR t b).lookup ("bottom" : Str) = some (.int b) := by unfold fsR; rw [lookup_putF, if_pos rfl]
def RatAt (C : Addr) (H : Hp) (a : Addr) (t b : Int) : Prop := ∃ dx, H a = some (.ins C dx (fsR t b))
theorem RatAt.same {C : Addr} {H H' : Hp} {a : Addr} {t b : Int} (s : Same H H') (h : RatAt C H a t b) : RatAt C H' a t b := let ⟨dx, h⟩ := h; ⟨dx, s _ _ h⟩
/-- a Ratio of t over b, or the integer t -/
def RatV (C : Addr) (H : Hp) (v : V) (t b : Int) : Prop := (∃ a, v = .ref a ∧ RatAt C H a t b) ∨ (v = .int t ∧ b = 1)
theorem RatV.same {C : Addr} {H H' : Hp} {v : V} {t b : Int} (s : Same H H') (h : RatV C H v t b) : RatV C H' v t b := by
  rcases h with ⟨a, e, h⟩ | h
  · exact .inl ⟨a, e, h.same s⟩
  · exact .inr h
/-- no ratio: None, a truth, a text, a list, a tuple, a dict -/
inductive Odd (H : Hp) : V → String → Prop
  | non : Odd H .non "NoneType"
  | bl (b : Bool) : Odd H (.bl b) "bool"
  | str (x : Str) : Odd H (.str x) "str"
  | lst {a : Addr} {xs : List V} (h : H a = some (.lst xs)) : Odd H (.ref a) "list"
  | tup {a : Addr} {xs : List V} (h : H a = some (.tup xs)) : Odd H (.ref a) "tuple"
  | dK {a : Addr} {kvs : List (Key × V)} (h : H a = some (.dK kvs)) : Odd H (.ref a) "dict"
theorem Odd.ty {K : PySem.W.Frag} {H : Hp} {v : V} {T : String} (h : Odd H v T) : TyOf K H v (.type T) := by
  cases h with
  | non => exact .non
  | bl b => exact .bl b
  | str x => exact .str x
  | lst h => exact .lst h
  | tup h => exact .tup h
  | dK h => exact .dK h
theorem Odd.same {H H' : Hp} {v : V} {T : String} (s : Same H H') (h : Odd H v T) : Odd H' v T := by
  cases h with
  | non => exact .non
  | bl b => exact .bl b
  | str x => exact .str x
  | lst h => exact .lst (s _ _ h)
  | tup h => exact .tup (s _ _ h)
  | dK h => exact .dK (s _ _ h)
theorem Odd.mem {H : Hp} {v : V} {T : String} (h : Odd H v T) : T ∈ kinds6 := by cases h <;> simp [kinds6]

/-- what the written part says of the class of ratios -/
structure RatF (K : PySem.W.Frag) (C : Addr) : Prop where
  cl : Cls K C
  nT : NoAttr K C "top"
  nB : NoAttr K C "bottom"
  ha : PySem.W.findIn K (.ref C) "__class__" = some (some (.builtin "object.__class__"))
  hn : PySem.W.specialIn K (.builtin "object.__class__") "__get__" = some (some (.builtin "getset_descriptor.__get__"))
  ht : PySem.W.takesIn K (.builtin "object.__class__") = some true
  hm : PySem.W.mroIn K C (.type "object") = some true
  me : PySem.W.kitOne K (.ref C) (.ref C) = some true
  noI : PySem.W.kitOne K (.ref C) (.type "int") = some false
  noB : PySem.W.kitOne K (.ref C) (.type "bool") = some false
  int : PySem.W.kitOne K (.type "int") (.ref C) = some false
  odd : ∀ T ∈ kinds6, PySem.W.kitOne K (.type T) (.ref C) = some false
theorem RatAt.ty {K : PySem.W.Frag} {C : Addr} {H : Hp} {a : Addr} {t b : Int} (F : RatF K C) (h : RatAt C H a t b) : TyOf K H (.ref a) (.ref C) := let ⟨_, h⟩ := h; .ins h F.cl F.ha F.hn F.ht F.hm
theorem odd_int {K : PySem.W.Frag} {T : String} (h : T ∈ kinds6) : ∃ c, PySem.W.kitOne K (.type T) (.type "int") = some c ∧ (c = true → PySem.W.kitOne K (.type T) (.type "bool") = some true) := by
  simp only [kinds6, List.mem_cons, List.not_mem_nil, or_false] at h
  rcases h with rfl | rfl | rfl | rfl | rfl | rfl
  · exact ⟨false, kit_ty (by decide +kernel), fun z => nomatch z⟩
  · exact ⟨true, kit_ty (by decide +kernel), fun _ => kit_ty (by decide +kernel)⟩
  · exact ⟨false, kit_ty (by decide +kernel), fun z => nomatch z⟩
  · exact ⟨false, kit_ty (by decide +kernel), fun z => nomatch z⟩
  · exact ⟨false, kit_ty (by decide +kernel), fun z => nomatch z⟩
  · exact ⟨false, kit_ty (by decide +kernel), fun z => nomatch z⟩

/-! ### is_integer, of any value whose type is told -/
def spIsInt (K : PySem.W.Frag) : Sp := fun vs H Q _ => ∃ (v : V) (t : Value) (c d : Bool), vs = [v] ∧ TyOf K H v t ∧ PySem.W.kitOne K t (.type "int") = some c ∧ (c = true → PySem.W.kitOne K t (.type "bool") = some d) ∧ Q (.bl (c && !d)) H
section
variable {P : Program} {w : World} {K : PySem.W.Frag} {mg : Str → Option Value} {base : Heap} {f : Addr} {fd : FuncData}
theorem scIsInt : FnScope ["value"] ["value"] (defScope sIsInt) := ⟨rfl, rfl, rfl, by decide +kernel, rfl, by decide +kernel, by decide +kernel⟩
theorem ok_isInt (G : Glob mg) (F : DefAt K "is_integer" "is_integer" sIsInt f fd) : FnOk P w K mg base CX0 1 f fd ["value"] (spIsInt K) := by
  refine F.ok scIsInt (fun vs H Q E ⟨v, _, _, _, e, _⟩ => by rw [e]; rfl) (fun cdv A outer s H vs Q E hr ⟨v, t, c, d, e, ty, k1, k2, q⟩ => ?_)
  subst e
  refine ⟨_, (pss_one (ps_ret (pe_and (pe_callB call_isi (by rfl) G.isi (by decide +kernel) (pa_cons (pv 0) (pa_cons (pe_bltn (by rfl) G.int (by decide +kernel) (v := .ty "int") rfl) pa_nil)))
      (pe_one (pe_not (pe_callB call_isi (by rfl) G.isi (by decide +kernel) (pa_cons (pv 0) (pa_cons (pe_bltn (by rfl) G.bool (by decide +kernel) (v := .ty "bool") rfl) pa_nil)))))))).nox, ?_⟩
  refine ⟨_, rfl, _, _, _, _, _, rfl, .ty "int", .base ty, k1, c, rfl, ?_⟩
  cases c with
  | false => exact iteF q
  | true => exact iteT ⟨_, rfl, _, _, _, _, _, rfl, .ty "bool", .base ty, k2 rfl, d, rfl, q⟩
end
end K1

/-! raise BadRatio('..'). -/
namespace K1
open PySem PySem.Spec PyProof.Rows L2 LamX

/-- self.part = part, in the making -/
def spBad (C : Addr) : Sp := fun vs H Q _ => ∃ (a : Addr) (v : V), vs = [.ref a, v] ∧ H a = some (exo a C none) ∧ ∀ dx, H dx = none → dx ≠ a → Q .non (upd (upd H dx (exd dx [("part", v)])) a (exo a C (some dx)))
section
variable {P : Program} {w : World} {K : PySem.W.Frag} {mg : Str → Option Value} {base : Heap} {f C : Addr} {fd : FuncData}
theorem scBad : FnScope ["self", "part"] ["self", "part"] (defScope sBadInit) := ⟨rfl, rfl, rfl, by decide +kernel, rfl, by decide +kernel, by decide +kernel⟩
theorem ok_bad (F : DefAt K "__init__" "BadRatio.__init__" sBadInit f fd) (T : OexC K C) (no : PySem.W.findIn K (.ref C) "part" = some none) : FnOk P w K mg base CX0 1 f fd ["self", "part"] (spBad C) := by
  refine F.ok scBad (fun vs H Q E ⟨a, v, e, _⟩ => by rw [e]; rfl) (fun cdv A outer s H vs Q E hr ⟨a, v, e, ha, q⟩ => ?_)
  subst e
  refine ⟨_, (pss_one (ps_ost (pv 0) (pv 1) rfl)).nox, ?_⟩
  exact ⟨_, rfl, _, rfl, a, C, rfl, T, no, .inl ⟨ha, q⟩⟩
end
/-- all that a raise of BadRatio needs -/
structure BadR (P : Program) (w : World) (K : PySem.W.Frag) (mg : Str → Option Value) (base : Heap) (C : Addr) : Prop extends BadF K mg C where
  o : OexC K C
  i : ∃ fI fd, PySem.W.findIn K (.ref C) "__init__" = some (some (.ref fI)) ∧ PySem.W.typeIn K (.ref fI) = some (.type "function") ∧ DefAt K "__init__" "BadRatio.__init__" sBadInit fI fd
/-- behind it: what stood stands; the exception's own dict holds the part -/
def Told (H H' : Hp) (d : Addr) (y : Str) : Prop := Same H H' ∧ H' d = some (.xd [(("part" : Str), V.str y)])
theorem Told.look {H H' : Hp} {d : Addr} {y : Str} (h : Told H H' d y) : ∃ fs : List (Str × V), H' d = some (.xd fs) ∧ fs.lookup ("part" : Str) = some (V.str y) := ⟨_, h.2, by simp [List.lookup]⟩
def tBad (C : Addr) (y : Str) (W : WX) : TS := fun _ σ H => ∀ (d : Addr) (H' : Hp), Told H H' d y → W (.ref C) (some d) σ H'
theorem ps_bad {X : Cx} {C : Addr} {W : WX} {y : Str} {j : Nat} {p p2 pos pos2 : Pos} (B : BadR X.prog X.w X.K X.mg X.base C) (hc : X.calm = true) (tk : Takes X W) (hr : Room 2 X.A) (hg : Gl X "BadRatio" := by rfl)
    (he : starEach [.Constant (.str y) j p2] X.env = (false, eval (.Constant (.str y) j p2) X.env) :: starEach [] X.env := by rfl) (hpl : (backTo pos (starEach [] X.env)).any (·.1) = false := by rfl) :
    PS X (.Raise (some (.Call (.Name "BadRatio" p) [.Constant (.str y) j p2] [] pos)) none pos2) (tBad C y W) := by
  obtain ⟨fI, fd, i1, i2, D⟩ := B.i
  have F1 : FnOk X.prog X.w X.K X.mg X.base CX0 1 fI fd ["self", "part"] (spBad C) := ok_bad D B.o B.no
  have b1 : Binds X.K fd ["self", "part"] [] := D.bindsN fun _ _ _ _ _ _ us hl => match us, hl with | [_, _], _ => rfl
  have r := ps_raise (pos := pos2) hc tk (pmk_oex (p := p) (pos := pos) B.o i1 i2 F1 hr b1 .nil pass0 hg B.g (pa_cons (pe_str (x := y) (j := j) (pos := p2)) pa_nil) (by decide) he hpl)
  refine ⟨fun pins s σ H D' I h => r.run pins s σ H D' I ?_⟩
  refine ⟨by show 1 ≤ 1000; decide, fun a na => ⟨a, .str y, rfl, upd_same, fun dx nd nea => ⟨rfl, dx, _, upd_same, by rw [upd_ne nea]; exact upd_same, ?_, ?_⟩⟩⟩
  · rw [upd_ne nea] at nd
    exact nd
  · refine h dx _ ⟨fun b o e => ?_, upd_same⟩
    rw [upd_ne nea] at nd
    have h1 := ne_of_none e na
    have h2 := ne_of_none e nd
    rw [upd_ne h2, del_ne h1, upd_ne h1, upd_ne h2, upd_ne h1]
    exact e
end K1

/-! Ratio(top, bottom). -/
namespace K1
open PySem PySem.Spec PyProof.Rows L2 LamX

/-- is_integer says no of it -/
def NotInt (K : PySem.W.Frag) (H : Hp) (v : V) : Prop := ∃ (t : Value) (c : Bool), TyOf K H v t ∧ PySem.W.kitOne K t (.type "int") = some c ∧ (c = true → PySem.W.kitOne K t (.type "bool") = some true)
theorem Odd.not {K : PySem.W.Frag} {H : Hp} {v : V} {T : String} (h : Odd H v T) : NotInt K H v := by
  obtain ⟨c, h1, h2⟩ := odd_int (K := K) h.mem
  exact ⟨_, c, h.ty, h1, h2⟩
theorem RatAt.not {K : PySem.W.Frag} {C : Addr} {H : Hp} {a : Addr} {t b : Int} (F : RatF K C) (h : RatAt C H a t b) : NotInt K H (.ref a) := ⟨_, false, h.ty F, F.noI, fun z => nomatch z⟩
theorem int1 {K : PySem.W.Frag} : PySem.W.kitOne K (.type "int") (.type "int") = some true := kit_ty (a := "int") (b := "int") (r := true) (by decide +kernel)
theorem int2 {K : PySem.W.Frag} : (true = true) → PySem.W.kitOne K (.type "int") (.type "bool") = some false := fun _ => kit_ty (a := "int") (b := "bool") (r := false) (by decide +kernel)
theorem bl_no {c : Bool} {Q : VK} {H : Hp} (q : Q (.bl false) H) : Q (.bl (c && !true)) H := by rw [Bool.not_true, Bool.and_false]; exact q

/-- is_integer as a def that is called -/
structure HasInt (P : Program) (w : World) (K : PySem.W.Frag) (mg : Str → Option Value) (base : Heap) : Prop where
  h : ∃ f fd, mg "is_integer" = some (.ref f) ∧ PySem.W.keepIn K (.ref f) = true ∧ Binds K fd ["value"] [] ∧ FnOk P w K mg base CX0 1 f fd ["value"] (spIsInt K)

/-- a def, defaults or none, that may raise -/
theorem okX {P : Program} {w : World} {K : PySem.W.Frag} {mg : Str → Option Value} {base : Heap} {x qual : Str} {params : Arguments} {body : List Stmt} {scope : Scope} {dvs : List V} {kws : List (Str × V)} {f : Addr} {fd : FuncData} {N ps : List Str} {k : Nat} {sp : Sp}
    (F : FunD K x qual params body scope dvs kws f fd) (S : FnScope N ps scope) (len : ∀ vs H Q E, sp vs H Q E → vs.length = ps.length)
    (hb : ∀ (cdv : Value) (A : Around) (outer : List Env) (s : Shared) (H : Hp) (vs : List V) (Q : VK) (E : XK), Room k (A.deeper (envOfC qual scope s.heap.objs.size f cdv)) → sp vs H Q E →
      ∃ t, PSs (cxOf (L2.CX P w) P w K mg base N qual scope f cdv A outer s H E) body t ∧ t { nx := fun _ H' => Q .non H', rt := Q } (start N vs) H) : FnOk P w K mg base (L2.CX P w) (k + 1) f fd ps sp := by
  obtain ⟨oc, od, dV, kV, doc, pm, an, cdv, ct, osl, rfl, lk, hcd, _, _⟩ := F.ex
  exact fn_of lk hcd S len fun A outer s H vs Q E hr h => hb cdv A outer s H vs Q E hr h

def spRI (K : PySem.W.Frag) (C CB : Addr) : Sp := fun vs H Q E => ∃ (p dx : Addr) (vt vb : V), vs = [.ref p, vt, vb] ∧ H p = some (.ins C dx []) ∧
  ((∃ t b : Int, vt = .int t ∧ vb = .int b ∧ b ≠ 0 ∧ Sm 8000 t ∧ Sm 8000 b ∧ Q .non (upd H p (.ins C dx (fsR (rT t b) (rB t b))))) ∨
   (NotInt K H vt ∧ ∀ d H', Told H H' d "top" → E (.ref CB) (some d) H') ∨
   (∃ t : Int, vt = .int t ∧ (NotInt K H vb ∨ vb = .int 0) ∧ ∀ d H', Told H H' d "bottom" → E (.ref CB) (some d) H'))
section
variable {P : Program} {w : World} {K : PySem.W.Frag} {mg : Str → Option Value} {base : Heap} {f C CB : Addr} {fd : FuncData} {dv : List V}
theorem scRI : FnScope ["self", "top", "bottom", "shared"] ["self", "top", "bottom"] (defScope sRInit) := ⟨rfl, rfl, rfl, by decide +kernel, rfl, by decide +kernel, by decide +kernel⟩
theorem ok_rinit (G : Glob mg) (R : RatF K C) (B : BadR P w K mg base CB) (HI : HasInt P w K mg base) (F : FunD K "__init__" "Ratio.__init__" (defArgs sRInit) (defBody sRInit) (defScope sRInit) dv [] f fd) :
    FnOk P w K mg base (L2.CX P w) 3 f fd ["self", "top", "bottom"] (spRI K C CB) := by
  obtain ⟨fi, fdi, mI, kI, bI, GI⟩ := HI.h
  refine okX F scRI (fun vs H Q E ⟨p, dx, vt, vb, e, _⟩ => by rw [e]; rfl) (fun cdv A outer s H vs Q E hr ⟨p, dx, vt, vb, e, hp, h⟩ => ?_)
  subst e
  have tk : Takes (cxOf (L2.CX P w) P w K mg base ["self", "top", "bottom", "shared"] "Ratio.__init__" (defScope sRInit) f cdv A outer s H E) (fun cls d _ H' => E cls d H') := takes_of rfl rfl rfl rfl
  have hr1 := hr.mono (show 1 ≤ 2 by decide)
  refine ⟨_, pss_cons (ps_if (pt_not (pt_val (pe_call GI hr1 rfl mI kI bI .nil pass0 (pa_cons (pv 1) pa_nil)))) (pss_one (ps_bad B rfl tk hr)) pss_nil)
    (pss_cons (ps_if (PW.pt (pw_or (pt_not (pt_val (pe_call GI hr1 rfl mI kI bI .nil pass0 (pa_cons (pv 2) pa_nil)))) (pw_or1 (pt_cmpR op_eq (pv 2) pe_int (nomark _))))) (pss_one (ps_bad B rfl tk hr)) pss_nil)
    (pss_cons (ps_set (i := 3) scRI.nd rfl (Or.inl rfl) (pe_ifExp (pt_cmpR op_gt (pv 2) pe_int (nomark _)) (pe_callBfun cr_gcd (by rfl) G.gcd (pa_cons (pv 1) (pa_cons (pv 2) pa_nil)))
      (pe_un un_neg (pe_callBfun cr_gcd (by rfl) G.gcd (pa_cons (pv 1) (pa_cons (pv 2) pa_nil))))))
    (pss_cons (ps_fld (pv 0) (pe_op op_fdivZ (pv 1) (pv 3)) rfl)
    (pss_one (ps_fld (pv 0) (pe_op op_fdivZ (pv 2) (pv 3)) rfl))))), ?_⟩
  rcases h with ⟨t, b, rfl, rfl, b0, st, sb, q⟩ | ⟨n1, q⟩ | ⟨t, rfl, n2, q⟩
  · refine ⟨_, rfl, _, _, _, _, rfl, .int t, int1, int2, true, rfl, iteF ?_⟩
    refine ⟨_, rfl, _, _, _, _, rfl, .int b, int1, int2, true, rfl, iteF ?_⟩
    refine ⟨_, rfl, rfl, false, by rw [decide_eq_false (show ¬ V.int b = V.int 0 from fun e => b0 (V.int.inj e))], iteF ?_⟩
    have dv : ∀ x, CDivZ x (com t b) := fun x => ⟨com_ne b0, by
      have g : (com t b).natAbs ≤ b.natAbs := by rw [com_abs]; exact Nat.gcd_le_right _ (by omega)
      have z : Sm 8000 (com t b) := Nat.lt_of_le_of_lt g sb
      exact Nat.lt_of_lt_of_le (z.log (by decide)) (by decide)⟩
    have c1 : ∀ {z : Int}, b > 0 → ((Nat.gcd t.natAbs b.natAbs : Nat) : Int) = z → z = com t b := fun h e => by rw [← e]; unfold com; rw [if_pos h]
    have c2 : ∀ {z : Int}, ¬ b > 0 → -((Nat.gcd t.natAbs b.natAbs : Nat) : Int) = z → z = com t b := fun h e => by rw [← e]; unfold com; rw [if_neg h]
    refine ⟨_, rfl, _, _, rfl, rfl, decide (0 < b), rfl, ?_⟩
    by_cases hb : b > 0
    · rw [decide_eq_true hb]
      refine iteT ⟨_, rfl, _, rfl, t, b, rfl, ?_⟩
      generalize hz : ((Nat.gcd t.natAbs b.natAbs : Nat) : Int) = z
      obtain rfl := c1 hb hz
      refine ⟨_, rfl, _, rfl, _, _, rfl, rfl, dv _, _, rfl, p, C, dx, [], rfl, hp, R.cl, R.nT, (by show 0 < 1000; decide), ?_⟩
      refine ⟨_, rfl, _, rfl, _, _, rfl, rfl, dv _, _, rfl, p, C, dx, _, rfl, upd_same, R.cl, R.nB, (by show 1 < 1000; decide), ?_⟩
      rw [upd_upd]
      exact q
    · rw [decide_eq_false hb]
      refine iteF ⟨_, rfl, _, rfl, t, b, rfl, _, rfl, ?_⟩
      have e : com t b = -((Nat.gcd t.natAbs b.natAbs : Nat) : Int) := (c2 hb rfl).symm
      unfold rT rB at q
      rw [e] at q
      rw [e] at dv
      refine ⟨_, rfl, _, rfl, _, _, rfl, rfl, dv _, _, rfl, p, C, dx, [], rfl, hp, R.cl, R.nT, (by show 0 < 1000; decide), ?_⟩
      refine ⟨_, rfl, _, rfl, _, _, rfl, rfl, dv _, _, rfl, p, C, dx, _, rfl, upd_same, R.cl, R.nB, (by show 1 < 1000; decide), ?_⟩
      rw [upd_upd]
      exact q
  · obtain ⟨ty, c, k1, k2, k3⟩ := n1
    refine ⟨_, rfl, _, _, _, _, rfl, k1, k2, k3, ?_⟩
    rw [Bool.not_true, Bool.and_false]
    exact ⟨false, rfl, iteT q⟩
  · refine ⟨_, rfl, _, _, _, _, rfl, .int t, int1, int2, true, rfl, iteF ?_⟩
    rcases n2 with ⟨ty, c, k1, k2, k3⟩ | rfl
    · refine ⟨_, rfl, _, _, _, _, rfl, k1, k2, k3, ?_⟩
      rw [Bool.not_true, Bool.and_false]
      exact ⟨false, rfl, iteT (iteT q)⟩
    · refine ⟨_, rfl, _, _, _, _, rfl, .int 0, int1, int2, true, rfl, iteF ?_⟩
      exact ⟨_, rfl, rfl, true, by rw [decide_eq_true rfl], iteT q⟩
end
end K1

/-! _right; Ratio(..) as an expression. -/
namespace K1
open PySem PySem.Spec PyProof.Rows L2 LamX

theorem Told.from {H H1 H' : Hp} {d : Addr} {y : Str} (s : Same H H1) (h : Told H1 H' d y) : Told H H' d y := ⟨fun b o e => h.1 b o (s b o e), h.2⟩
/-- Ratio's class and its __init__, for Ratio(e) and Ratio(e, e') -/
structure MkR (P : Program) (w : World) (K : PySem.W.Frag) (mg : Str → Option Value) (base : Heap) (C CB : Addr) : Prop where
  g : mg "Ratio" = some (.ref C)
  m : ∃ f fd ds, Mk K C f ∧ FnOk P w K mg base (L2.CX P w) 3 f fd ["self", "top", "bottom"] (spRI K C CB) ∧ Binds K fd ["self", "top", "bottom"] [] ∧ Vals [V.int 1] ds ∧ Binds K fd ["self", "top", "bottom"] ds
theorem made_same {H : Hp} {C x dx : Addr} (hx : H x = none) (hd : H dx = none) (ne : dx ≠ x) : Same H (upd (upd H dx (.own x)) x (.ins C dx [])) := fun b o e => by
  rw [upd_ne (ne_of_none e hx), upd_ne (ne_of_none e hd)]
  exact e
/-- what is wanted of a new Ratio of t over b -/
def New (C : Addr) (H : Hp) (t b : Int) (Q : VK) : Prop := ∀ (p : Addr) (H' : Hp), Same H H' → H p = none → RatAt C H' p (rT t b) (rB t b) → Q (.ref p) H'
theorem mk_new {K : PySem.W.Frag} {C CB : Addr} {H : Hp} {t b : Int} {Q : VK} {E : XK} (b0 : b ≠ 0) (st : Sm 8000 t) (sb : Sm 8000 b) (q : New C H t b Q) :
    ∀ x dx, H x = none → H dx = none → dx ≠ x → spRI K C CB [.ref x, .int t, .int b] (upd (upd H dx (.own x)) x (.ins C dx [])) (fun v H2 => v = .non ∧ Q (.ref x) H2) E := fun x dx hx hd ne =>
  ⟨x, dx, _, _, rfl, upd_same, .inl ⟨t, b, rfl, rfl, b0, st, sb, rfl, by
    rw [upd_upd]
    exact q x _ (fun o u e => by rw [upd_ne (ne_of_none e hx), upd_ne (ne_of_none e hd)]; exact e) hx ⟨dx, upd_same⟩⟩⟩
theorem NotInt.same {K : PySem.W.Frag} {C : Addr} {H H' : Hp} {v : V} (s : Same H H') (h : NotInt K H v) : NotInt K H' v := by
  obtain ⟨t, c, ty, h⟩ := h
  refine ⟨t, c, ?_, h⟩
  cases ty with
  | non => exact .non
  | bl x => exact .bl x
  | int i => exact .int i
  | str x => exact .str x
  | flt x => exact .flt x
  | lst e => exact .lst (s _ _ e)
  | frz e => exact .frz (s _ _ e)
  | tup e => exact .tup (s _ _ e)
  | dK e => exact .dK (s _ _ e)
  | dT e => exact .dT (s _ _ e)
  | ins e a b c d f => exact .ins (s _ _ e) a b c d f

/-- _right(other): the Ratio itself, a new one of an integer; an odd value is refused -/
def spRight (C CB : Addr) : Sp := fun vs H Q E => ∃ v, vs = [v] ∧
  ((∃ t b, RatV C H v t b ∧ Sm 8000 t ∧ ∀ p H', Same H H' → RatAt C H' p t b → Q (.ref p) H') ∨ (∃ T, Odd H v T ∧ ∀ d H', Told H H' d "other" → E (.ref CB) (some d) H'))
section
variable {P : Program} {w : World} {K : PySem.W.Frag} {mg : Str → Option Value} {base : Heap} {f C CB : Addr} {fd : FuncData}
theorem scRight : FnScope ["other"] ["other"] (defScope sRight) := ⟨rfl, rfl, rfl, by decide +kernel, rfl, by decide +kernel, by decide +kernel⟩
theorem ok_right (G : Glob mg) (R : RatF K C) (B : BadR P w K mg base CB) (HI : HasInt P w K mg base) (MR : MkR P w K mg base C CB) (F : DefAt K "_right" "_right" sRight f fd) :
    FnOk P w K mg base (L2.CX P w) 5 f fd ["other"] (spRight C CB) := by
  obtain ⟨fi, fdi, mI, kI, bI, GI⟩ := HI.h
  obtain ⟨fm, fdm, ds, M, GM, _, hv, bM⟩ := MR.m
  refine okX F scRight (fun vs H Q E ⟨v, e, _⟩ => by rw [e]; rfl) (fun cdv A outer s H vs Q E hr ⟨v, e, h⟩ => ?_)
  subst e
  have tk : Takes (cxOf (L2.CX P w) P w K mg base ["other"] "_right" (defScope sRight) f cdv A outer s H E) (fun cls d _ H' => E cls d H') := takes_of rfl rfl rfl rfl
  refine ⟨_, pss_cons (ps_if (pt_val (pe_callB call_isi (by rfl) G.isi (by decide +kernel) (pa_cons (pv 0) (pa_cons (pe_glob (v := .ref C) rfl MR.g rfl) pa_nil)))) (pss_one (ps_ret (pv 0))) pss_nil)
    (pss_cons (ps_if (pt_not (pt_val (pe_call GI (hr.mono (by decide)) rfl mI kI bI .nil pass0 (pa_cons (pv 0) pa_nil)))) (pss_one (ps_bad B rfl tk (hr.mono (by decide)))) pss_nil)
    (pss_one (ps_ret (pe_make M GM hr rfl MR.g bM hv (passes_call tk fun _ _ _ _ z => z) (pa_cons (pv 0) pa_nil))))), ?_⟩
  rcases h with ⟨t, b, hv, st, q⟩ | ⟨T, ho, q⟩
  · rcases hv with ⟨a, rfl, ha⟩ | ⟨rfl, rfl⟩
    · refine ⟨_, rfl, _, _, _, _, _, rfl, .own C, .base (ha.ty R), R.me, true, rfl, iteT ⟨_, rfl, ?_⟩⟩
      exact q a H (Same.refl H) ha
    · refine ⟨_, rfl, _, _, _, _, _, rfl, .own C, .base (.int t), R.int, false, rfl, iteF ?_⟩
      refine ⟨_, rfl, _, _, _, _, rfl, .int t, int1, int2, true, rfl, iteF ?_⟩
      refine ⟨_, rfl, mk_new (by decide) st (Sm.one (by decide)) fun p H' s _ hp => ?_⟩
      obtain ⟨e1, e2⟩ := red_one t
      rw [e1, e2] at hp
      exact q p H' s hp
  · refine ⟨_, rfl, _, _, _, _, _, rfl, .own C, .base ho.ty, R.odd T ho.mem, false, rfl, iteF ?_⟩
    obtain ⟨ty, c, k1, k2, k3⟩ := ho.not (K := K)
    refine ⟨_, rfl, _, _, _, _, rfl, k1, k2, k3, ?_⟩
    rw [Bool.not_true, Bool.and_false]
    exact ⟨false, rfl, iteT q⟩
end
end K1

/-! x + y, x - y, x * y, x.over(y), and their kin: the defs. -/
namespace K1
open PySem PySem.Spec PyProof.Rows L2 LamX

/-- _right as a def that is called -/
structure HasRight (P : Program) (w : World) (K : PySem.W.Frag) (mg : Str → Option Value) (base : Heap) (C CB : Addr) : Prop where
  h : ∃ f fd, mg "_right" = some (.ref f) ∧ PySem.W.keepIn K (.ref f) = true ∧ Binds K fd ["other"] [] ∧ FnOk P w K mg base (L2.CX P w) 5 f fd ["other"] (spRight C CB)
theorem New.from {C : Addr} {H H1 : Hp} {t b : Int} {Q : VK} (s : Same H H1) (h : New C H t b Q) : New C H1 t b Q := fun p H' s' hp r => h p H' (s.trans s') (s.free hp) r
section
variable {P : Program} {w : World} {K : PySem.W.Frag} {mg : Str → Option Value} {base : Heap} {f C CB : Addr} {fd : FuncData}

end
end K1

namespace K1
open PySem PySem.Spec PyProof.Rows L2 LamX

/-- how two stand to each other -/
def cmpI (m o : Int) : Int := if m = o then 0 else if m < o then -1 else 1
def spCmp (C CB : Addr) (g : Int → V) : Sp := fun vs H Q E => ∃ (a : Addr) (v : V) (t b : Int), vs = [.ref a, v] ∧ RatAt C H a t b ∧
  ((∃ t2 b2, RatV C H v t2 b2 ∧ Sm 3000 t ∧ Sm 3000 b ∧ Sm 3000 t2 ∧ Sm 3000 b2 ∧ ∀ H', Same H H' → Q (g (cmpI (t * b2) (t2 * b))) H') ∨
   (∃ T, Odd H v T ∧ ∀ dd H', Told H H' dd "other" → E (.ref CB) (some dd) H'))
def spUn (C : Addr) (n : Int → Int) : Sp := fun vs H Q _ => ∃ (a : Addr) (t b : Int), vs = [.ref a] ∧ RatAt C H a t b ∧ b ≠ 0 ∧ Sm 3000 t ∧ Sm 3000 b ∧ New C H (n t) b Q
/-- what one number or both tell -/
def spTell (C : Addr) (g : Int → Int → V) : Sp := fun vs H Q _ => ∃ (a : Addr) (t b : Int), vs = [.ref a] ∧ RatAt C H a t b ∧ Q (g t b) H
def sgn (t : Int) : Int := if t = 0 then 0 else if t > 0 then 1 else -1
/-- x == y -/
def spEq (K : PySem.W.Frag) (C : Addr) : Sp := fun vs H Q _ => ∃ (a : Addr) (v : V) (t b : Int), vs = [.ref a, v] ∧ RatAt C H a t b ∧
  ((∃ a2 t2 b2, v = .ref a2 ∧ RatAt C H a2 t2 b2 ∧ Q (.bl (decide (t = t2) && decide (b = b2))) H) ∨ (∃ n, v = .int n ∧ Q (.bl (decide (b = 1) && decide (t = n))) H) ∨ (∃ T, Odd H v T ∧ Q (.bl false) H))
theorem decI {i j : Int} : decide (V.int i = V.int j) = decide (i = j) := by
  by_cases h : i = j
  · rw [decide_eq_true h, decide_eq_true (by rw [h])]
  · rw [decide_eq_false h, decide_eq_false (fun e => h (V.int.inj e))]
section
variable {P : Program} {w : World} {K : PySem.W.Frag} {mg : Str → Option Value} {base : Heap} {f C CB : Addr} {fd : FuncData}
end
end K1

namespace K1
open PySem PySem.Spec PyProof.Rows L2 LamX

/-- a def that lets nothing out -/
theorem okN {P : Program} {w : World} {K : PySem.W.Frag} {mg : Str → Option Value} {base : Heap} {x qual : Str} {params : Arguments} {body : List Stmt} {scope : Scope} {dvs : List V} {kws : List (Str × V)} {f : Addr} {fd : FuncData} {N ps : List Str} {k : Nat} {sp : Sp}
    (F : FunD K x qual params body scope dvs kws f fd) (S : FnScope N ps scope) (len : ∀ vs H Q E, sp vs H Q E → vs.length = ps.length)
    (hb : ∀ (cdv : Value) (A : Around) (outer : List Env) (s : Shared) (H : Hp) (vs : List V) (Q : VK) (E : XK), Room k (A.deeper (envOfC qual scope s.heap.objs.size f cdv)) → sp vs H Q E →
      ∃ t, PSs (cxOf CX0 P w K mg base N qual scope f cdv A outer s H E).nox body t ∧ t { nx := fun _ H' => Q .non H', rt := Q } (start N vs) H) : FnOk P w K mg base CX0 (k + 1) f fd ps sp :=
  F.ok S len fun cdv A outer s H vs Q E hr h => let ⟨t, h1, h2⟩ := hb cdv A outer s H vs Q E hr h; ⟨t, h1.nox, h2⟩
section
variable {P : Program} {w : World} {K : PySem.W.Frag} {mg : Str → Option Value} {base : Heap} {f C CB : Addr} {fd : FuncData}
theorem scsign : FnScope ["self"] ["self"] (defScope sSign) := ⟨rfl, rfl, rfl, by decide +kernel, rfl, by decide +kernel, by decide +kernel⟩
theorem ok_sign (R : RatF K C) (F : DefAt K "sign" "Ratio.sign" sSign f fd) : FnOk P w K mg base CX0 1 f fd ["self"] (spTell C fun t _ => .int (sgn t)) := by
  refine F.ok scsign (fun vs H Q E ⟨a, t, b, e, _⟩ => by rw [e]; rfl) (fun cdv A outer s H vs Q E hr ⟨a, t, b, e, ha, q⟩ => ?_)
  subst e
  obtain ⟨dx, h1⟩ := ha
  refine ⟨_, (pss_cons (ps_if (pt_cmpR op_eq (pe_fld (pv 0) rfl) pe_int (nomark _)) (pss_one (ps_ret pe_int)) pss_nil)
    (pss_one (ps_ret (pe_ifExp (pt_cmpR op_gt (pe_fld (pv 0) rfl) pe_int (nomark _)) pe_int (pe_un un_neg pe_int))))).nox, ?_⟩
  refine ⟨_, rfl, a, C, dx, _, _, rfl, h1, R.cl, R.nT, fsR_top _ _, rfl, _, rfl, ?_⟩
  have q : Q (V.int (sgn t)) H := q
  unfold sgn at q
  by_cases e : t = 0
  · rw [decI, decide_eq_true e]
    rw [if_pos e] at q
    exact iteT q
  · rw [decI, decide_eq_false e]
    rw [if_neg e] at q
    refine iteF ⟨_, rfl, a, C, dx, _, _, rfl, h1, R.cl, R.nT, fsR_top _ _, _, _, rfl, rfl, decide (0 < t), rfl, ?_⟩
    by_cases l : t > 0
    · rw [decide_eq_true l]
      rw [if_pos l] at q
      exact iteT q
    · rw [decide_eq_false l]
      rw [if_neg l] at q
      exact iteF ⟨_, rfl, q⟩
theorem sceq : FnScope ["self", "other"] ["self", "other"] (defScope sEq) := ⟨rfl, rfl, rfl, by decide +kernel, rfl, by decide +kernel, by decide +kernel⟩
theorem ok_eq (G : Glob mg) (R : RatF K C) (HI : HasInt P w K mg base) (gR : mg "Ratio" = some (.ref C)) (F : DefAt K "__eq__" "Ratio.__eq__" sEq f fd) : FnOk P w K mg base CX0 2 f fd ["self", "other"] (spEq K C) := by
  obtain ⟨fi, fdi, mI, kI, bI, GI⟩ := HI.h
  refine okN F sceq (fun vs H Q E ⟨a, v, t, b, e, _⟩ => by rw [e]; rfl) (fun cdv A outer s H vs Q E hr ⟨a, v, t, b, e, ha, h⟩ => ?_)
  subst e
  obtain ⟨dx, h1⟩ := ha
  refine ⟨_, pss_cons (ps_if (pt_val (pe_callB call_isi (by rfl) G.isi (by decide +kernel) (pa_cons (pv 1) (pa_cons (pe_glob (v := .ref C) rfl gR rfl) pa_nil))))
      (pss_one (ps_ret (pe_and (pe_cmpR op_eq (pe_fld (pv 0) rfl) (pe_fld (pv 1) rfl) (nomark _)) (pe_one (pe_cmpR op_eq (pe_fld (pv 0) rfl) (pe_fld (pv 1) rfl) (nomark _)))))) pss_nil)
    (pss_one (ps_ret (pe_and (pe_call GI hr rfl mI kI bI .nil pass0 (pa_cons (pv 1) pa_nil)) (pe_and (pe_cmpR op_eq (pe_fld (pv 0) rfl) pe_int (nomark _)) (pe_one (pe_cmpR op_eq (pe_fld (pv 0) rfl) (pv 1) (nomark _))))))), ?_⟩
  rcases h with ⟨a2, t2, b2, rfl, h2, q⟩ | ⟨n, rfl, q⟩ | ⟨T, ho, q⟩
  · refine ⟨_, rfl, _, _, _, _, _, rfl, .own C, .base (h2.ty R), R.me, true, rfl, iteT ?_⟩
    obtain ⟨dy, h2⟩ := h2
    refine ⟨_, rfl, a, C, dx, _, _, rfl, h1, R.cl, R.nT, fsR_top _ _, _, rfl, a2, C, dy, _, _, rfl, h2, R.cl, R.nT, fsR_top _ _, rfl, _, rfl, ?_⟩
    rw [decI]
    by_cases e : t = t2
    · rw [decide_eq_true e] at q ⊢
      refine iteT ⟨_, rfl, a, C, dx, _, _, rfl, h1, R.cl, R.nB, fsR_bottom _ _, _, rfl, a2, C, dy, _, _, rfl, h2, R.cl, R.nB, fsR_bottom _ _, rfl, ?_⟩
      rw [decI]
      rw [Bool.true_and] at q
      exact q
    · rw [decide_eq_false e] at q ⊢
      exact iteF q
  · refine ⟨_, rfl, _, _, _, _, _, rfl, .own C, .base (.int n), R.int, false, rfl, iteF ?_⟩
    refine ⟨_, rfl, _, _, _, _, rfl, .int n, int1, int2, true, rfl, iteT ?_⟩
    refine ⟨_, rfl, a, C, dx, _, _, rfl, h1, R.cl, R.nB, fsR_bottom _ _, rfl, _, rfl, ?_⟩
    rw [decI]
    by_cases e : b = 1
    · rw [decide_eq_true e] at q ⊢
      refine iteT ⟨_, rfl, a, C, dx, _, _, rfl, h1, R.cl, R.nT, fsR_top _ _, _, rfl, rfl, ?_⟩
      rw [decI]
      rw [Bool.true_and] at q
      exact q
    · rw [decide_eq_false e] at q ⊢
      exact iteF q
  · refine ⟨_, rfl, _, _, _, _, _, rfl, .own C, .base ho.ty, R.odd T ho.mem, false, rfl, iteF ?_⟩
    obtain ⟨ty, c, k1, k2, k3⟩ := ho.not (K := K)
    refine ⟨_, rfl, _, _, _, _, rfl, k1, k2, k3, ?_⟩
    rw [Bool.not_true, Bool.and_false]
    exact ⟨false, rfl, iteF q⟩
end
end K1

namespace K1
open PySem PySem.Spec PyProof.Rows L2 LamX

/-- the text of a ratio -/
def ratText (t b : Int) : Str := if b = 1 then Str.ofString (toString t) else ((Str.empty ++ Str.ofString (toString t)) ++ Str.ofString "/") ++ Str.ofString (toString b)
theorem ratText_len {t b : Int} (h1 : Sm 1900 t) (h2 : Sm 1900 b) : (Str.empty ++ Str.ofString (toString t)).length ≤ 1921 ∧ ((Str.empty ++ Str.ofString (toString t)) ++ Str.ofString "/").length ≤ 1922 ∧ (ratText t b).length ≤ 4000 := by
  have a := PyProof.Rows.int_text_len_1921 (Nat.lt_trans (h1.log (by decide)) (by decide : 1900 < 1920))
  have c := PyProof.Rows.int_text_len_1921 (Nat.lt_trans (h2.log (by decide)) (by decide : 1900 < 1920))
  have e : Str.empty.length = 0 := rfl
  have e1 : (Str.ofString "/").length = 1 := by decide +kernel
  refine ⟨?_, ?_, ?_⟩
  · rw [strLen_append, e]; omega
  · rw [strLen_append, strLen_append, e, e1]; omega
  · unfold ratText
    split
    · omega
    · rw [strLen_append, strLen_append, strLen_append, e, e1]; omega
def spStr (C : Addr) : Sp := fun vs H Q _ => ∃ (a : Addr) (t b : Int), vs = [.ref a] ∧ RatAt C H a t b ∧ Sm 1900 t ∧ Sm 1900 b ∧ Q (.str (ratText t b)) H
section
variable {P : Program} {w : World} {K : PySem.W.Frag} {mg : Str → Option Value} {base : Heap} {f C CB : Addr} {fd : FuncData}
theorem scstr : FnScope ["self"] ["self"] (defScope sStr) := ⟨rfl, rfl, rfl, by decide +kernel, rfl, by decide +kernel, by decide +kernel⟩
theorem ok_str (G : Glob mg) (R : RatF K C) (F : DefAt K "__str__" "Ratio.__str__" sStr f fd) : FnOk P w K mg base CX0 1 f fd ["self"] (spStr C) := by
  refine F.ok scstr (fun vs H Q E ⟨a, t, b, e, _⟩ => by rw [e]; rfl) (fun cdv A outer s H vs Q E hr ⟨a, t, b, e, ha, st, sb, q⟩ => ?_)
  subst e
  obtain ⟨dx, h1⟩ := ha
  have lt := Nat.lt_trans (st.log (by decide)) (by decide : 1900 < 1920)
  have lb := Nat.lt_trans (sb.log (by decide)) (by decide : 1900 < 1920)
  refine ⟨_, (pss_cons (ps_if (pt_cmpR op_eq (pe_fld (pv 0) rfl) pe_int (nomark _)) (pss_one (ps_ret (pe_callTy call_str_int (by rfl) G.str (by decide +kernel) (pa_cons (pe_fld (pv 0) rfl) pa_nil)))) pss_nil)
    (pss_one (ps_ret (pe_joined (.cons (pe_fmt (pe_fld (pv 0) rfl)) (.cons pe_str (.cons (pe_fmt (pe_fld (pv 0) rfl)) .nil))))))).nox, ?_⟩
  refine ⟨_, rfl, a, C, dx, _, _, rfl, h1, R.cl, R.nB, fsR_bottom _ _, rfl, _, rfl, ?_⟩
  obtain ⟨l1, l2, l3⟩ := ratText_len st sb
  have big : (4000 : Nat) ≤ sizeLine := by decide +kernel
  by_cases hb : b = 1
  · rw [decI, decide_eq_true hb]
    have e : ratText t b = Str.ofString (toString t) := if_pos hb
    rw [e] at q
    exact iteT ⟨_, rfl, a, C, dx, _, _, rfl, h1, R.cl, R.nT, fsR_top _ _, t, rfl, lt, q⟩
  · rw [decI, decide_eq_false hb]
    have e : ratText t b = ((Str.empty ++ Str.ofString (toString t)) ++ Str.ofString "/") ++ Str.ofString (toString b) := if_neg hb
    rw [e] at q l3
    refine iteF ⟨_, rfl, a, C, dx, _, _, rfl, h1, R.cl, R.nT, fsR_top _ _, .inr ⟨t, rfl, lt, ?_⟩⟩
    refine ⟨_, rfl, Nat.le_trans l1 (by omega), _, rfl, Nat.le_trans l2 (by omega), ?_⟩
    exact ⟨_, rfl, a, C, dx, _, _, rfl, h1, R.cl, R.nB, fsR_bottom _ _, .inr ⟨b, rfl, lb, _, rfl, Nat.le_trans l3 big, q⟩⟩
theorem screpr : FnScope ["self"] ["self"] (defScope sRepr) := ⟨rfl, rfl, rfl, by decide +kernel, rfl, by decide +kernel, by decide +kernel⟩
theorem ok_repr {fS : Addr} {fdS : FuncData} (G : Glob mg) (R : RatF K C) (FS : DefAt K "__str__" "Ratio.__str__" sStr fS fdS) (M : OwnM K C "__str__" fS) (F : DefAt K "__repr__" "Ratio.__repr__" sRepr f fd) : FnOk P w K mg base CX0 4 f fd ["self"] (spStr C) := by
  have GS : FnOk P w K mg base CX0 1 fS fdS ["self"] (spStr C) := ok_str G R FS
  have bS : Binds K fdS ["self"] [] := FS.bindsN fun _ _ _ _ _ _ us hl => match us, hl with | [_], _ => rfl
  refine okN F screpr (fun vs H Q E ⟨a, t, b, e, _⟩ => by rw [e]; rfl) (fun cdv A outer s H vs Q E hr ⟨a, t, b, e, ha, st, sb, q⟩ => ?_)
  subst e
  refine ⟨_, pss_one (ps_ret (pe_callTy (call_strO M GS hr bS pass0) (by rfl) G.str (by decide +kernel) (pa_cons (pv 0) pa_nil))), ?_⟩
  obtain ⟨dx, h1⟩ := id ha
  exact ⟨_, rfl, a, dx, _, rfl, h1, a, t, b, rfl, ha, st, sb, _, rfl, q⟩
end
end K1

/-! is_ratio, Ratio.of, lists of ratios. -/
namespace K1
open PySem PySem.Spec PyProof.Rows L2 LamX

/-- what is_ratio tells: a Ratio or an integer, or an odd value -/
def spIsRatio (C : Addr) : Sp := fun vs H Q _ => ∃ v, vs = [v] ∧ ((∃ t b, RatV C H v t b ∧ Q (.bl true) H) ∨ (∃ T, Odd H v T ∧ Q (.bl false) H))
def spOf (C CB : Addr) : Sp := fun vs H Q E => ∃ v, vs = [v] ∧
  ((∃ t b, RatV C H v t b ∧ Sm 8000 t ∧ ∀ p H', Same H H' → RatAt C H' p t b → Q (.ref p) H') ∨ (∃ T, Odd H v T ∧ ∀ d H', Told H H' d "value" → E (.ref CB) (some d) H'))
structure HasIsR (P : Program) (w : World) (K : PySem.W.Frag) (mg : Str → Option Value) (base : Heap) (C : Addr) : Prop where
  h : ∃ f fd, mg "is_ratio" = some (.ref f) ∧ PySem.W.keepIn K (.ref f) = true ∧ Binds K fd ["value"] [] ∧ FnOk P w K mg base CX0 2 f fd ["value"] (spIsRatio C)
section
variable {P : Program} {w : World} {K : PySem.W.Frag} {mg : Str → Option Value} {base : Heap} {f C CB : Addr} {fd : FuncData}
theorem scIsR : FnScope ["value"] ["value"] (defScope sIsRatio) := ⟨rfl, rfl, rfl, by decide +kernel, rfl, by decide +kernel, by decide +kernel⟩
theorem ok_isR (G : Glob mg) (R : RatF K C) (HI : HasInt P w K mg base) (gR : mg "Ratio" = some (.ref C)) (F : DefAt K "is_ratio" "is_ratio" sIsRatio f fd) : FnOk P w K mg base CX0 2 f fd ["value"] (spIsRatio C) := by
  obtain ⟨fi, fdi, mI, kI, bI, GI⟩ := HI.h
  refine okN F scIsR (fun vs H Q E ⟨v, e, _⟩ => by rw [e]; rfl) (fun cdv A outer s H vs Q E hr ⟨v, e, h⟩ => ?_)
  subst e
  refine ⟨_, pss_one (ps_ret (pe_or (pe_callB call_isi (by rfl) G.isi (by decide +kernel) (pa_cons (pv 0) (pa_cons (pe_glob (v := .ref C) rfl gR rfl) pa_nil)))
    (pe_one (pe_call GI hr rfl mI kI bI .nil pass0 (pa_cons (pv 0) pa_nil))))), ?_⟩
  rcases h with ⟨t, b, hv, q⟩ | ⟨T, ho, q⟩
  · rcases hv with ⟨a, rfl, ha⟩ | ⟨rfl, rfl⟩
    · exact ⟨_, rfl, _, _, _, _, _, rfl, .own C, .base (ha.ty R), R.me, true, rfl, iteT q⟩
    · exact ⟨_, rfl, _, _, _, _, _, rfl, .own C, .base (.int t), R.int, false, rfl, iteF ⟨_, rfl, _, _, _, _, rfl, .int t, int1, int2, q⟩⟩
  · refine ⟨_, rfl, _, _, _, _, _, rfl, .own C, .base ho.ty, R.odd T ho.mem, false, rfl, iteF ?_⟩
    obtain ⟨ty, c, k1, k2, k3⟩ := ho.not (K := K)
    refine ⟨_, rfl, _, _, _, _, rfl, k1, k2, k3, ?_⟩
    rw [Bool.not_true, Bool.and_false]
    exact q
theorem scOf : FnScope ["value"] ["value"] (defScope sOf) := ⟨rfl, rfl, rfl, by decide +kernel, rfl, by decide +kernel, by decide +kernel⟩
theorem ok_of (B : BadR P w K mg base CB) (HR : HasRight P w K mg base C CB) (HQ : HasIsR P w K mg base C) (F : DefAt K "of" "Ratio.of" sOf f fd) : FnOk P w K mg base (L2.CX P w) 6 f fd ["value"] (spOf C CB) := by
  obtain ⟨fr, fdr, mR, kR, bR, GR⟩ := HR.h
  obtain ⟨fq, fdq, mQ, kQ, bQ, GQ⟩ := HQ.h
  refine okX F scOf (fun vs H Q E ⟨v, e, _⟩ => by rw [e]; rfl) (fun cdv A outer s H vs Q E hr ⟨v, e, h⟩ => ?_)
  subst e
  have tk : Takes (cxOf (L2.CX P w) P w K mg base ["value"] "Ratio.of" (defScope sOf) f cdv A outer s H E) (fun cls d _ H' => E cls d H') := takes_of rfl rfl rfl rfl
  have ps := passes_call tk (E := E) fun _ _ _ _ z => z
  refine ⟨_, pss_cons (ps_if (pt_not (pt_val (pe_call GQ (hr.mono (by decide)) rfl mQ kQ bQ .nil pass0 (pa_cons (pv 0) pa_nil)))) (pss_one (ps_bad B rfl tk (hr.mono (by decide)))) pss_nil)
    (pss_one (ps_ret (pe_call GR hr rfl mR kR bR .nil ps (pa_cons (pv 0) pa_nil)))), ?_⟩
  rcases h with ⟨t, b, hv, st, q⟩ | ⟨T, ho, q⟩
  · exact ⟨_, rfl, _, rfl, .inl ⟨t, b, hv, true, rfl, iteF ⟨_, rfl, _, rfl, .inl ⟨t, b, hv, st, q⟩⟩⟩⟩
  · exact ⟨_, rfl, _, rfl, .inr ⟨T, ho, false, rfl, iteT q⟩⟩
end

/-! ### lists of ratios -/
/-- each value of a list is a ratio: its top and bottom told -/
inductive RatL (C : Addr) (H : Hp) : List V → List (Int × Int) → Prop
  | nil : RatL C H [] []
  | cons {v : V} {t b : Int} {vs : List V} {rs : List (Int × Int)} : RatV C H v t b → RatL C H vs rs → RatL C H (v :: vs) ((t, b) :: rs)
theorem RatL.same {C : Addr} {H H' : Hp} {vs : List V} {rs : List (Int × Int)} (s : Same H H') (h : RatL C H vs rs) : RatL C H' vs rs := by
  induction h with
  | nil => exact .nil
  | cons a _ ih => exact .cons (a.same s) ih
theorem RatL.get {C : Addr} {H : Hp} {vs : List V} {rs : List (Int × Int)} (h : RatL C H vs rs) : ∀ {i : Nat} {v : V}, vs[i]? = some v → ∃ t b, rs[i]? = some (t, b) ∧ RatV C H v t b := by
  induction h with
  | nil => intro i v h; simp at h
  | cons a _ ih =>
    intro i v e
    cases i with
    | zero => simp at e; subst e; exact ⟨_, _, rfl, a⟩
    | succ i => exact ih (i := i) (by simpa using e)
theorem RatL.length {C : Addr} {H : Hp} {vs : List V} {rs : List (Int × Int)} (h : RatL C H vs rs) : rs.length = vs.length := by
  induction h with
  | nil => rfl
  | cons _ _ ih => simp [ih]
/-- a list or a tuple that stands at a -/
def SeqR (K : PySem.W.Frag) (H : Hp) (a : Addr) (xs : List V) : Prop := H a = some (.lst xs) ∨ H a = some (.tup xs)
end K1

/-! is_listed, _are_ratios, _some_ratios. -/
namespace K1
open PySem PySem.Spec PyProof.Rows L2 LamX

def spListed (K : PySem.W.Frag) : Sp := fun vs H Q _ => ∃ (v : V) (t : Value) (b : Bool), vs = [v] ∧ TyOf K H v t ∧ PySem.W.kitAny K t [.type "list", .type "tuple"] = some b ∧ ∀ H', Same H H' → Q (.bl b) H'
theorem is_list {K : PySem.W.Frag} : PySem.W.kitAny K (.type "list") [.type "list", .type "tuple"] = some true := kitAny_cons (kit_ty (b := "list") (r := true) (by decide +kernel)) (fun z => nomatch z) fun _ => rfl
theorem is_tup {K : PySem.W.Frag} : PySem.W.kitAny K (.type "tuple") [.type "list", .type "tuple"] = some true := kitAny_cons (kit_ty (b := "list") (r := false) (by decide +kernel)) (fun _ => kitAny_cons (kit_ty (b := "tuple") (r := true) (by decide +kernel)) (fun z => nomatch z) fun _ => rfl) fun z => nomatch z
structure HasListed (P : Program) (w : World) (K : PySem.W.Frag) (mg : Str → Option Value) (base : Heap) : Prop where
  h : ∃ f fd, mg "is_listed" = some (.ref f) ∧ PySem.W.keepIn K (.ref f) = true ∧ Binds K fd ["value"] [] ∧ FnOk P w K mg base CX0 1 f fd ["value"] (spListed K)
theorem yes_of {σ : L2.St} {H : Hp} {F G : Hp → Prop} (h : F H) : tYes σ H (fun b H' => if b = true then F H' else G H') := h
theorem upd_new {H : Hp} {a : Addr} {o : HO} (h : H a = none) : Same H (upd H a o) := fun b u e => by rw [upd_ne (ne_of_none e h)]; exact e
/-- each item is a ratio (true) or an odd value (false) -/
def Items (C : Addr) (H : Hp) (xs : List V) (bs : List Bool) : Prop := xs.length = bs.length ∧ ∀ (i : Nat) (v : V), xs[i]? = some v → ∃ b, bs[i]? = some b ∧ ((b = true ∧ ∃ t d, RatV C H v t d) ∨ (b = false ∧ ∃ T, Odd H v T))
theorem Items.same {C : Addr} {H H' : Hp} {xs : List V} {bs : List Bool} (s : Same H H') (h : Items C H xs bs) : Items C H' xs bs := by
  refine ⟨h.1, fun i v e => ?_⟩
  obtain ⟨b, e1, z⟩ := h.2 i v e
  refine ⟨b, e1, ?_⟩
  rcases z with ⟨z, t, d, r⟩ | ⟨z, T, o⟩
  · exact .inl ⟨z, t, d, r.same s⟩
  · exact .inr ⟨z, T, o.same s⟩
theorem take_bl {bs : List Bool} {i : Nat} {b : Bool} (h : bs[i]? = some b) : (bs.take i).map V.bl ++ [V.bl b] = (bs.take (i + 1)).map V.bl := by
  obtain ⟨hi, e⟩ := List.getElem?_eq_some_iff.mp h
  rw [List.take_succ_eq_append_getElem hi, List.map_append, e]
  rfl
/-- _are_ratios, _some_ratios: what stands at a, as a list or a tuple -/
def spAre (K : PySem.W.Frag) (C : Addr) : Sp := fun vs H Q _ => ∃ v, vs = [v] ∧
  ((∃ a xs bs, v = .ref a ∧ (H a = some (.lst xs) ∨ H a = some (.tup xs)) ∧ Items C H xs bs ∧ xs.length ≤ 100 ∧ ∀ H', Same H H' → Q (.bl (bs.all id)) H') ∨ (∃ a t b, v = .ref a ∧ RatAt C H a t b ∧ PySem.W.kitAny K (.ref C) [.type "list", .type "tuple"] = some false ∧ ∀ H', Same H H' → Q (.bl false) H'))
section
variable {P : Program} {w : World} {K : PySem.W.Frag} {mg : Str → Option Value} {base : Heap} {f C CB : Addr} {fd : FuncData}
theorem scListed : FnScope ["value"] ["value"] (defScope sIsListed) := ⟨rfl, rfl, rfl, by decide +kernel, rfl, by decide +kernel, by decide +kernel⟩
theorem ok_listed (G : Glob mg) (F : DefAt K "is_listed" "is_listed" sIsListed f fd) : FnOk P w K mg base CX0 1 f fd ["value"] (spListed K) := by
  refine okN F scListed (fun vs H Q E ⟨v, _, _, e, _⟩ => by rw [e]; rfl) (fun cdv A outer s H vs Q E hr ⟨v, t, b, e, ty, k, q⟩ => ?_)
  subst e
  refine ⟨_, pss_one (ps_ret (pe_callB call_isiT (by rfl) G.isi (by decide +kernel) (pa_cons (pv 0) (pa_cons (pe_tup (pa_cons (pe_bltn (by rfl) G.lst (by decide +kernel) (v := .ty "list") rfl) (pa_cons (pe_bltn (by rfl) G.tup (by decide +kernel) (v := .ty "tuple") rfl) pa_nil))) pa_nil)))), ?_⟩
  refine ⟨_, rfl, (by show 2 ≤ sizeLine; decide), fun p np => ?_⟩
  have s1 : Same H (upd H p (.tup [.ty "list", .ty "tuple"])) := upd_new np
  refine ⟨_, p, _, t, [.type "list", .type "tuple"], b, rfl, upd_same, .cons (.ty _) (.cons (.ty _) .nil), .base ?_, k, q _ s1⟩
  cases ty with
  | non => exact .non
  | bl x => exact .bl x
  | int i => exact .int i
  | str x => exact .str x
  | flt x => exact .flt x
  | lst e => exact .lst (s1 _ _ e)
  | frz e => exact .frz (s1 _ _ e)
  | tup e => exact .tup (s1 _ _ e)
  | dK e => exact .dK (s1 _ _ e)
  | dT e => exact .dT (s1 _ _ e)
  | ins e a b c d f => exact .ins (s1 _ _ e) a b c d f
end
end K1

/-! _some_ratios, added. -/
namespace K1
open PySem PySem.Spec PyProof.Rows L2 LamX

theorem Sm.zero {k : Nat} : Sm k 0 := Nat.pow_pos (by decide)
/-- a list or a tuple of values stands at a -/
def Seq (H : Hp) (a : Addr) (xs : List V) : Prop := H a = some (.lst xs) ∨ H a = some (.tup xs)
theorem Seq.same {H H' : Hp} {a : Addr} {xs : List V} (s : Same H H') (h : Seq H a xs) : Seq H' a xs := h.elim (fun h => .inl (s _ _ h)) fun h => .inr (s _ _ h)
/-- a built-in class at the right of an operator of the class at C -/
def OpT (K : PySem.W.Frag) (C : Addr) (op : Operator) (T : String) : Prop := ∃ fo ro, PySem.W.findIn K (.type T) (PySem.dunder op.info.2) = some fo ∧ PySem.W.findIn K (.type T) (dunderR op.info.2) = some ro ∧ PySem.W.subIn K (.type T) (.ref C) = some false
theorem seq_asg {te : TE} {g : TG} {T : TS} {D : Ends} {σ : L2.St} {H : Hp} (h : te σ H fun v H1 => g v σ H1 (T D)) : tSeq (tAsg te g) T D σ H := h
theorem mk_int {K : PySem.W.Frag} {C CB : Addr} {σ : L2.St} {H : Hp} {n : Int} {Q : VK} {E : XK} (hn : Sm 8000 n) (q : ∀ p H', Same H H' → H p = none → RatAt C H' p n 1 → Q (.ref p) H') : tMake C (spRI K C CB) [V.int 1] E (tCons (tC (V.int n)) tNil) σ H Q :=
  mk_new (by decide) hn (Sm.one (by decide)) fun p H' s hp r => by
    obtain ⟨e1, e2⟩ := red_one n
    rw [e1, e2] at r
    exact q p H' s hp r
theorem call1 {sp : Sp} {E : XK} {i : Nat} {σ : L2.St} {H : Hp} {Q : VK} {v : V} (hv : σ[i]? = some (some v)) (h : sp [v] H Q E) : tCall sp [] E (tCons (tVar i) tNil) σ H Q := ⟨v, hv, h⟩
section
variable {P : Program} {w : World} {K : PySem.W.Frag} {mg : Str → Option Value} {base : Heap} {f C CB : Addr} {fd : FuncData}
end
end K1

/-! repr of nested values that may hold instances of an own class. -/
namespace K2
open PySem PySem.Spec PyProof.Rows L2 K1

/-- code that runs at A for the body X: the same frames, room, the guards that run spare the addresses in S -/
structure At (X : Cx) (G0 : List Code) (k : Nat) (A : Around) (S : Addr → Prop) : Prop where
  fr : A.frames = some X.stack
  room : Room k A
  gd : ∃ g, A.guards = some (g ++ G0) ∧ ∀ b, S b → Clear g b
theorem At.env0 {X : Cx} {G0 : List Code} {k : Nat} {A : Around} {S : Addr → Prop} {pins : List (Addr × Obj)} {σ : L2.St} {H : Hp} {s : Shared} (t : At X G0 k A S) (I : Inv X pins σ H s) : Env0 X.prog X.w X.K X.mg X.base A X.stack s H := by
  have e := I.env0
  exact ⟨t.fr, e.mod, e.bs, e.bsz, e.funs, e.frf, e.hok, e.bare⟩
theorem At.in1 {X : Cx} {G0 : List Code} {k : Nat} {A : Around} {S : Addr → Prop} (t : At X G0 (k + 1) A S) : At X G0 k A.in1 S := by
  obtain ⟨g, h1, h2⟩ := t.gd
  exact ⟨t.fr, t.room.in1, g, h1, h2⟩
theorem At.less {X : Cx} {G0 : List Code} {j k : Nat} {A : Around} {S U : Addr → Prop} (t : At X G0 k A S) (h : j ≤ k) (hs : ∀ b, U b → S b) : At X G0 j A U := by
  obtain ⟨g, h1, h2⟩ := t.gd
  exact ⟨t.fr, t.room.mono h, g, h1, fun b hb => h2 b (hs b hb)⟩
/-- a function called at such a place -/
theorem run_at {X : Cx} {G0 : List Code} {k : Nat} {A : Around} {S : Addr → Prop} {f : Addr} {fd : FuncData} {ps : List Str} {sp : Sp} {pins : List (Addr × Obj)} {σ : L2.St} {H : Hp} {s : Shared} {Q : VK} {us : List Value} {vs : List V} {E : Value → Shared → Prop}
    (F : FnOk X.prog X.w X.K X.mg X.base CX0 k f fd ps sp) (t : At X G0 k A S) (hb : Binds X.K fd ps []) (I : Inv X pins σ H s) (r : Vals vs us) (h : sp vs H Q E0) :
    wpAny (model X.prog X.w) A (call (.ref f) us) (EP X pins σ Q) E s := by
  have hl : us.length = ps.length := by rw [← r.length]; exact F.len _ _ _ _ h
  have b1 := hb s us I.kIn (by rw [List.append_nil]; exact hl)
  rw [List.append_nil] at b1
  refine wpAny_call (codeAny_mono (F.run A X.stack s H ⟨us, []⟩ us vs Q E0 t.room (t.env0 I) b1 r h) fun r s' hq => ?_)
  cases r with
  | error e => exact False.elim hq
  | ok fl =>
    cases fl with
    | ret u => exact I.after hq
    | next => exact False.elim hq
    | brk => exact False.elim hq
    | cont => exact False.elim hq

/-- v is shown by the text t, wherever it is reached (X's heap H, at its time or later) -/
def RpU (X : Cx) (G0 : List Code) (k : Nat) (S : Addr → Prop) (H : Hp) (v : V) (t : Str) : Prop :=
  ∀ (base : Nat) (A : Around) (E : Value → Shared → Prop) (pins : List (Addr × Obj)) (σ : L2.St) (s : Shared) (H1 : Hp) (u : Value) (Q : Str → Shared → Prop),
    base + t.length ≤ sizeLine → At X G0 k A S → Inv X pins σ H1 s → Same H H1 → RelV v u →
    (∀ s' H2, Inv X pins σ H2 s' → Same H1 H2 → Q t s') → wpAny (model X.prog X.w) A (pyReprUnder base u) Q E s
/-- .. and by the call of repr itself -/
def RpT (X : Cx) (G0 : List Code) (k : Nat) (H : Hp) (v : V) (t : Str) : Prop :=
  ∀ (A : Around) (E : Value → Shared → Prop) (pins : List (Addr × Obj)) (σ : L2.St) (s : Shared) (H1 : Hp) (u : Value) (Q : Value → Shared → Prop),
    t.length ≤ sizeLine → A.guards = some G0 → A.frames = some X.stack → Room k A → Inv X pins σ H1 s → Same H H1 → RelV v u →
    (∀ s' H2 tk, Inv X pins σ H2 s' → Same H1 H2 → Q (.str t tk) s') → wpAny (model X.prog X.w) A (call (.builtin "repr") [u]) Q E s
theorem RpU.more {X : Cx} {G0 : List Code} {j k : Nat} {S U : Addr → Prop} {H : Hp} {v : V} {t : Str} (r : RpU X G0 j S H v t) (h : j ≤ k) (hs : ∀ b, S b → U b) : RpU X G0 k U H v t :=
  fun base A E pins σ s H1 u Q hb a I hsm rv hq => r base A E pins σ s H1 u Q hb (a.less h hs) I hsm rv hq
theorem RpU.later {X : Cx} {G0 : List Code} {k : Nat} {S : Addr → Prop} {H H' : Hp} {v : V} {t : Str} (r : RpU X G0 k S H v t) (s : Same H H') : RpU X G0 k S H' v t :=
  fun base A E pins σ s0 H1 u Q hb a I hs rv h => r base A E pins σ s0 H1 u Q hb a I (s.trans hs) rv h
theorem RpT.more {X : Cx} {G0 : List Code} {j k : Nat} {H : Hp} {v : V} {t : Str} (r : RpT X G0 j H v t) (h : j ≤ k) : RpT X G0 k H v t :=
  fun A E pins σ s H1 u Q hz hg hf hr I hs rv hq => r A E pins σ s H1 u Q hz hg hf (hr.mono h) I hs rv hq

/-! ### values without parts -/
theorem RpU.of_is {X : Cx} {G0 : List Code} {H : Hp} {v : V} {t : Str} (h : ∀ u, RelV v u → ReprIs X.prog X.w u t) : RpU X G0 0 (fun _ => False) H v t :=
  fun base A E pins σ s H1 u Q hb a I hs rv hq => h u rv base hb A E s Q fun tk => hq _ H1 (I.tok tk) (Same.refl _)
theorem RpU.int {X : Cx} {G0 : List Code} {H : Hp} {n : Int} (hn : n.natAbs.log2 < 1920) : RpU X G0 0 (fun _ => False) H (.int n) (toString n) :=
  .of_is fun u ⟨t, e⟩ => by rw [e]; exact ReprIs.int t hn
theorem RpU.str {X : Cx} {G0 : List Code} {H : Hp} {x : Str} (hx : (reprText x).length ≤ sizeLine) : RpU X G0 0 (fun _ => False) H (.str x) (reprText x) :=
  .of_is fun u ⟨t, e⟩ => by rw [e]; exact ReprIs.str x t hx
theorem RpU.bool {X : Cx} {G0 : List Code} {H : Hp} {b : Bool} : RpU X G0 0 (fun _ => False) H (.bl b) (if b then "True" else "False") :=
  .of_is fun u (e : u = _) => by rw [e]; exact ReprIs.bool b
theorem RpU.none {X : Cx} {G0 : List Code} {H : Hp} : RpU X G0 0 (fun _ => False) H .non "None" :=
  .of_is fun u (e : u = _) => by rw [e]; exact ReprIs.none
theorem RpT.int {X : Cx} {G0 : List Code} {H : Hp} {n : Int} (hn : n.natAbs.log2 < 1920) : RpT X G0 0 H (.int n) (toString n) := by
  rintro A E pins σ s H1 u Q hz hg hf hr I hs ⟨t, rfl⟩ hq
  exact PySem.P.repr_of_int hn (hq _ H1 _ (I.tok _) (Same.refl _))
theorem RpT.str {X : Cx} {G0 : List Code} {H : Hp} {x : Str} (hx : (reprText x).length ≤ sizeLine) : RpT X G0 0 H (.str x) (reprText x) := by
  rintro A E pins σ s H1 u Q hz hg hf hr I hs ⟨t, rfl⟩ hq
  exact PySem.P.repr_of_str (hq _ H1 _ (I.tok _) (Same.refl _)) hx
theorem RpT.bool {X : Cx} {G0 : List Code} {H : Hp} {b : Bool} : RpT X G0 0 H (.bl b) (if b then "True" else "False") := by
  intro A E pins σ s H1 u Q hz hg hf hr I hs rv hq
  obtain rfl : u = Value.bool b := rv
  exact PySem.P.repr_of_bool (hq _ H1 _ (I.tok _) (Same.refl _))
theorem RpT.none {X : Cx} {G0 : List Code} {H : Hp} : RpT X G0 0 H .non "None" := by
  intro A E pins σ s H1 u Q hz hg hf hr I hs rv hq
  obtain rfl : u = Value.none := rv
  exact PySem.P.repr_of_none (hq _ H1 _ (I.tok _) (Same.refl _))

section
variable {X : Cx} {G0 : List Code} {H : Hp} {a b : Addr} {ts : List Str} {xs : List V}
theorem tup_at {pins : List (Addr × Obj)} {σ : L2.St} {s : Shared} {H1 : Hp} (I : Inv X pins σ H1 s) (h : H1 a = some (.tup xs)) :
    ∃ (o : Obj) (its : List Value) (n : Nat), s.heap.get? a = some o ∧ o.cls = .type "tuple" ∧ o.data = .seq its.toArray n ∧ Vals xs its := by
  obtain ⟨_, its, r, o, h1, h2, n, h3⟩ := (show ObjOk X.prog X.w H1 s.heap a (.tup xs) from I.hok a _ h)
  exact ⟨o, its, n, h1, h2, h3, r⟩
theorem lst_at {pins : List (Addr × Obj)} {σ : L2.St} {s : Shared} {H1 : Hp} (I : Inv X pins σ H1 s) (h : H1 a = some (.lst xs)) :
    ∃ (its : List Value) (n : Nat), s.heap.get? a = some { cls := .type "list", data := .seq its.toArray n } ∧ Vals xs its := by
  obtain ⟨_, its, n, r, h1⟩ := (show ObjOk X.prog X.w H1 s.heap a (.lst xs) from I.hok a _ h)
  exact ⟨its, n, h1, r⟩
end

/-! ### an instance of an own class -/
/-- what __repr__ promises: a text, nothing that was tracked is changed -/
def spRepr (P : Hp → Addr → Str → Prop) : Sp := fun vs H Q _ => ∃ (a : Addr) (t : Str), vs = [.ref a] ∧ P H a t ∧ ∀ H', Same H H' → Q (.str t) H'
structure ReprOf (X : Cx) (C f : Addr) (fd : FuncData) (k : Nat) (P : Hp → Addr → Str → Prop) : Prop where
  fn : FnOk X.prog X.w X.K X.mg X.base CX0 k f fd ["self"] (spRepr P)
  bd : Binds X.K fd ["self"] []
  at_ : PySem.W.findIn X.K (.ref C) "__repr__" = some (some (.ref f))
  isf : PySem.W.isFn X.K (.ref f) = true
section
variable {X : Cx} {G0 : List Code} {C f a : Addr} {fd : FuncData} {k : Nat} {P : Hp → Addr → Str → Prop} {H : Hp} {t : Str}
theorem own_inst {pins : List (Addr × Obj)} {σ : L2.St} {s : Shared} {H1 : Hp} (I : Inv X pins σ H1 s) {dx : Addr} {fs : List (Str × V)} (h : H1 a = some (.ins C dx fs)) : ∃ ox od, PySem.W.InstAt s.heap a ox C od := by
  obtain ⟨mA, O, _⟩ := ins_get I.hok h
  obtain ⟨od, J, _⟩ := O.look
  exact ⟨_, _, J⟩
theorem RpU.own (R : ReprOf X C f fd k P) {dx : Addr} {fs : List (Str × V)} (h : H a = some (.ins C dx fs)) (p : ∀ H1, Same H H1 → P H1 a t) : RpU X G0 k (fun _ => False) H (.ref a) t := by
  intro base A E pins σ s H1 u Q hb at_ I hs rv hq
  obtain rfl : u = Value.ref a := rv
  obtain ⟨ox, od, J⟩ := own_inst I (hs _ _ h)
  refine wpAny_pyReprUnder_ref (by omega) ?_
  unfold pyReprObjUnder pyReprObjBy
  refine wpAny_bind (wpAny_cRoomFor (by have := at_.room.un; omega) ?_)
  refine wpAny_bind (wpAny_bind (J.type.here ((PySem.W.looks_findIn I.kIn R.at_).here ?_)))
  show wpAny _ _ (if (some (Value.ref f)).isNone = true then _ else _) _ _ _
  rw [if_neg (by simp)]
  refine wpAny_bind ?_
  unfold callSpecialIfBoundBy? bindSpecialIfBound?
  refine wpAny_holding (wpAny_bind (wpAny_bind (wpAny_bind (J.type.here ((PySem.W.looks_findIn I.kIn R.at_).here ?_)))))
  refine wpAny_bind (wpAny_askSetting (wpAny_ite ?_))
  have go : wpAny (model X.prog X.w) A (call (.ref f) [.ref a]) (fun r s' => ∃ y tk, r = .str y tk ∧ Q y s') E s := by
    refine thn (run_at (vs := [.ref a]) (us := [.ref a]) (Q := fun v H2 => v = .str t ∧ Same H1 H2) R.fn at_ R.bd I (.cons rfl .nil) ⟨a, t, rfl, p H1 hs, fun H' hs' => ⟨rfl, hs'⟩⟩) fun r s' hr => ?_
    obtain ⟨v, H2, I2, rv2, rfl, hs2⟩ := hr
    obtain ⟨tk, rfl⟩ := rv2
    exact ⟨t, tk, rfl, hq s' H2 I2 hs2⟩
  have fin : ∀ Q' : Option Value → Shared → Prop, (∀ r s', (∃ y tk, r = .str y tk ∧ Q y s') → Q' (some r) s') → wpAny (model X.prog X.w) A (call (.ref f) ([.ref a] ++ []) >>= fun v => pure (some v)) Q' E s :=
    fun Q' h' => wpAny_bind (wpAny_mono go (fun r s' hr => wpAny_pure (h' r s' hr)) fun _ _ z => z)
  split
  all_goals first
    | refine wpAny_bind ((PySem.W.bind_fn I.kIn _ (beq_iff_eq.mp R.isf)).here (wpAny_pure ?_))
    | refine wpAny_tryCatch (wpAny_bind ((PySem.W.bind_fn I.kIn _ (beq_iff_eq.mp R.isf)).here (wpAny_pure ?_)))
  all_goals
    show wpAny _ _ (call (.ref f) ([.ref a] ++ []) >>= fun v => pure (some v)) _ _ _
    refine fin _ fun r s' hr => ?_
    obtain ⟨y, tk, rfl, q⟩ := hr
    refine wpAny_bind (wpAny_isInstance (typeIs_str _ _ _) isSubtype_str_str ?_)
    first
      | exact wpAny_pure ⟨_, _, rfl, q⟩
      | (rw [if_pos rfl]; exact wpAny_pure ⟨_, _, rfl, q⟩)
      | (simp only [if_true]; exact wpAny_pure ⟨_, _, rfl, q⟩)
theorem RpT.own (R : ReprOf X C f fd k P) {dx : Addr} {fs : List (Str × V)} (h : H a = some (.ins C dx fs)) (p : ∀ H1, Same H H1 → P H1 a t) : RpT X G0 (k + 1) H (.ref a) t := by
  intro A E pins σ s H1 u Q hz hg hf hr I hs rv hq
  obtain rfl : u = Value.ref a := rv
  obtain ⟨ox, od, J⟩ := own_inst I (hs _ _ h)
  obtain ⟨m, fr⟩ := I.fr
  have at_ : At X G0 (k + 1) A (fun _ => False) := ⟨hf, hr, [], hg, fun _ z => z.elim⟩
  refine PySem.W.repr_K (by have := hr.un; show A.units + 1 < cLine; omega) fr I.ok.mod.kin J R.at_ R.isf ?_
  refine thn (run_at (vs := [.ref a]) (us := [.ref a]) (Q := fun v H2 => v = .str t ∧ Same H1 H2) R.fn at_.in1 R.bd I (.cons rfl .nil) ⟨a, t, rfl, p H1 hs, fun H' hs' => ⟨rfl, hs'⟩⟩) fun r s' hr => ?_
  obtain ⟨v, H2, I2, rv2, rfl, hs2⟩ := hr
  obtain ⟨tk, rfl⟩ := rv2
  exact hq s' H2 tk I2 hs2
end

/-- each item is shown by its text -/
def RpAll (X : Cx) (G0 : List Code) (k : Nat) (S : Addr → Prop) (H : Hp) (xs : List V) (ts : List Str) : Prop := ts.length = xs.length ∧ ∀ (i : Nat) (x : V), xs[i]? = some x → ∃ t, ts[i]? = some t ∧ RpU X G0 k S H x t
theorem RpAll.tail {X : Cx} {G0 : List Code} {k : Nat} {S : Addr → Prop} {H : Hp} {x : V} {xs : List V} {t : Str} {ts : List Str} (h : RpAll X G0 k S H (x :: xs) (t :: ts)) : RpU X G0 k S H x t ∧ RpAll X G0 k S H xs ts := by
  refine ⟨?_, by have := h.1; simpa using this, fun i y e => ?_⟩
  · obtain ⟨t', e1, r⟩ := h.2 0 x rfl
    cases e1
    exact r
  · obtain ⟨t', e1, r⟩ := h.2 (i + 1) y (by simpa using e)
    exact ⟨t', by simpa using e1, r⟩

/-! ### lists -/
theorem under_frames {A : Around} {id : String} {args : Args} {l : List Env} (h : A.frames = some l) : (A.under (.builtin id args)).frames = some l := by
  first | exact h | (simpa [Around.under, Code.envs, Code.isFrame, pushEnvs] using h)
theorem At.loop {X : Cx} {G0 : List Code} {k : Nat} {A : Around} {a : Addr} {S : Addr → Prop} {id : String} {rest : List Value} (t : At X G0 (k + 1) A S) (hn : ¬ S a) (hcg : (Code.builtin id ⟨.ref a :: rest, []⟩).isGuard = true) (hw : (Code.builtin id ⟨.ref a :: rest, []⟩).weight = 1)
    (hcu : (A.under (.builtin id ⟨.ref a :: rest, []⟩)).units = A.units + 1) : At X G0 k (A.under (.builtin id ⟨.ref a :: rest, []⟩)) S := by
  obtain ⟨g, h1, h2⟩ := t.gd
  refine ⟨under_frames t.fr, ⟨t.room.hd, ?_, ?_⟩, _, guards_under_guard hcg h1, fun b hb => (h2 b hb).cons (a := a) fun e => hn (e ▸ hb)⟩
  · rw [show (A.under (.builtin id ⟨.ref a :: rest, []⟩)).depth = A.depth + 1 from congrArg (A.depth + ·) hw]; have := t.room.dp; omega
  · rw [hcu]; have := t.room.un; omega
theorem weight_loop (args : Args) : (Code.builtin "list.__repr__.loop" args).weight = 1 := by
  have e := isGuard_list_loop args
  have c1 : (Code.builtin "list.__repr__.loop" args).isCreation = false := by
    first | rfl | (simp [Code.isCreation])
  have c2 : (Code.builtin "list.__repr__.loop" args).isCaller = false := by
    first | rfl | (simp [Code.isCaller])
  unfold Code.weight
  rw [e, c1, c2]
  rfl
theorem weight_tup (args : Args) : (Code.builtin "tuple.__repr__" args).weight = 1 := by
  have e := isGuard_tuple_repr args
  have c1 : (Code.builtin "tuple.__repr__" args).isCreation = false := by
    first | rfl | (simp [Code.isCreation])
  have c2 : (Code.builtin "tuple.__repr__" args).isCaller = false := by
    first | rfl | (simp [Code.isCaller])
  unfold Code.weight
  rw [e, c1, c2]
  rfl
theorem weight_tupU (args : Args) : (Code.builtin "tuple.__repr__.under" args).weight = 1 := by
  have e := isGuard_tuple_repr_under args
  have c1 : (Code.builtin "tuple.__repr__.under" args).isCreation = false := by
    first | rfl | (simp [Code.isCreation])
  have c2 : (Code.builtin "tuple.__repr__.under" args).isCaller = false := by
    first | rfl | (simp [Code.isCaller])
  unfold Code.weight
  rw [e, c1, c2]
  rfl
theorem weight_dct (args : Args) : (Code.builtin "dict.__repr__" args).weight = 1 := by
  have e := isGuard_dict_repr args
  have c1 : (Code.builtin "dict.__repr__" args).isCreation = false := by
    first | rfl | (simp [Code.isCreation])
  have c2 : (Code.builtin "dict.__repr__" args).isCaller = false := by
    first | rfl | (simp [Code.isCaller])
  unfold Code.weight
  rw [e, c1, c2]
  rfl
theorem weight_dctU (args : Args) : (Code.builtin "dict.__repr__.under" args).weight = 1 := by
  have e := isGuard_dict_repr_under args
  have c1 : (Code.builtin "dict.__repr__.under" args).isCreation = false := by
    first | rfl | (simp [Code.isCreation])
  have c2 : (Code.builtin "dict.__repr__.under" args).isCaller = false := by
    first | rfl | (simp [Code.isCaller])
  unfold Code.weight
  rw [e, c1, c2]
  rfl
end K2

/-! repr of lists, tuples, dicts that hold own instances. -/
namespace K2
open PySem PySem.Spec PyProof.Rows L2 K1
open Builtin
open Builtin.List

section
variable {X : Cx} {G0 : List Code} {H : Hp} {a P : Addr} {xs : List V} {ts : List Str} {S : Addr → Prop} {k base : Nat} {A : Around} {pins : List (Addr × Obj)} {σ : L2.St} {R : Result → Shared → Prop}
theorem loop_own (hne : a ≠ P) (hP0 : H P = none) (hn : ¬ S a) (at_ : At X G0 (k + 1) A S) (ha : H a = some (.lst xs)) (r : RpAll X G0 k S H xs ts) (hsz : base + (listText ts).length ≤ sizeLine) :
    ∀ (n i : Nat) (s : Shared) (H1 : Hp), xs.length - i = n → i ≤ xs.length → Inv X pins σ H1 s → Same H H1 → H1 P = some (.lst ((ts.take i).map V.str)) →
    (∀ s' H2 u, Inv X pins σ H2 s' → Same H H2 → (∀ b o, b ≠ P → H1 b = some o → H2 b = some o) → R (.ok (.ret (.str (listText ts) u))) s') →
    codeAny (model X.prog X.w) A (.builtin "list.__repr__.loop" ⟨[.ref a, rawInt i, .ref P, rawInt ((base + piled (ts.take i) : Nat) : Int)], []⟩) R s := by
  have hL := textFrom_len ts 0 "["
  have hX : (listText ts).length = (textFrom 0 "[" ts).length + 1 := by
    show (textFrom 0 "[" ts ++ "]").length = _
    rw [strLen_append]; rfl
  have hsz2 : ∀ t ∈ ts, t.length ≤ sizeLine := fun t ht => by
    have h2 := hL.2.1 t ht
    omega
  have hsz1 : ts.length ≤ sizeLine := by
    have h1 := hL.1
    rw [if_neg (Nat.lt_irrefl 0)] at h1
    omega
  have hp3 := piled_le_listText ts
  intro n
  induction n with
  | zero =>
    intro i s H1 hk hi I hs hP hR
    have hin : i = xs.length := by omega
    obtain ⟨its, na, h1, rv⟩ := lst_at I (hs _ _ ha)
    obtain ⟨ps, np, h2, rp⟩ := lst_at I hP
    refine codeAny_builtin F.entry_list_repr_loop ?_
    show wpAny _ _ («list.__repr__.loop» ⟨[.ref a, .int i 0, .ref P, .int ((base + piled (ts.take i) : Nat) : Int) 0], []⟩) _ _ s
    rw [repr_loop_tree]
    refine wpAny_bind (wpAny_listItems h1 rfl ?_)
    have hnone : its.toArray[(i : Int).toNat]? = none := by simp [hin, rv.length]
    simp only [hnone]
    unfold reprEnd
    refine wpAny_bind (wpAny_listItems h2 rfl ?_)
    have hall : ts.take i = ts := by rw [hin, ← r.1, List.take_length]
    rw [hall] at rp
    have asStrs : ∀ (l : List Str) (us : List Value), Vals (l.map V.str) us → ∃ d : List (Str × Tok), us = strValues d ∧ d.map (·.1) = l := by
      intro l
      induction l with
      | nil => intro us z; cases z; exact ⟨[], rfl, rfl⟩
      | cons x l ih =>
        intro us z
        cases z with
        | cons z1 z2 =>
          obtain ⟨t, rfl⟩ := z1
          obtain ⟨d, rfl, e⟩ := ih _ z2
          exact ⟨(x, t) :: d, rfl, by simp [e]⟩
    obtain ⟨d, e1, e2⟩ := asStrs ts ps rp
    have e3 : ps.toArray.toList = strValues d := by simp [e1]
    rw [e3, repr_fold]
    refine wpAny_bind (wpAny_pure ?_)
    rw [e2]
    refine wpAny_bind (wpAny_mkStr (wpAny_pure ?_) (Nat.le_trans (Nat.le_add_left _ _) hsz))
    exact hR _ H1 _ (I.tok _) hs (fun b o _ e => e)
  | succ n ih =>
    intro i s H1 hk hi I hs hP hR
    have hlt : i < xs.length := by omega
    obtain ⟨its, na, h1, rv⟩ := lst_at I (hs _ _ ha)
    obtain ⟨t, ht, hrep⟩ := r.2 i xs[i] (List.getElem?_eq_getElem hlt)
    obtain ⟨u, hu, ru⟩ := rv.get (List.getElem?_eq_getElem hlt)
    have hp1 := piled_take_succ ht
    have hp2 := piled_take_le ts (i + 1)
    refine codeAny_builtin F.entry_list_repr_loop ?_
    show wpAny _ _ («list.__repr__.loop» ⟨[.ref a, .int i 0, .ref P, .int ((base + piled (ts.take i) : Nat) : Int) 0], []⟩) _ _ s
    rw [repr_loop_tree]
    refine wpAny_bind (wpAny_listItems h1 rfl ?_)
    have hsome : its.toArray[(i : Int).toNat]? = some u := by simpa using hu
    simp only [hsome]
    rw [Int.toNat_natCast]
    refine wpAny_bind (wpAny_holding (hrep (base + piled (ts.take i) + 1) _ _ pins σ s H1 u _ (by omega) (at_.loop hn (isGuard_list_loop _) (weight_loop _) (units_under_list_loop _ _)) I hs ru fun s' H2 I2 hs2 => ?_))
    refine wpAny_bind (wpAny_mkStr ?_ (hsz2 t (List.mem_of_getElem? ht)))
    refine wpAny_bind ?_
    show wpAny _ _ (updateSeq P _) _ _ _
    have I3 := I2.tok (s'.toks + 1)
    have hP2 := hs2 _ _ hP
    obtain ⟨zp, ps, np, rp, h2⟩ := (show ObjOk X.prog X.w H2 s'.heap P _ from I2.hok P _ hP2)
    have lp : ps.length = i := by
      rw [← Paired.length rp]
      simp
      rw [r.1]; omega
    have pz : ps.toArray.size ≤ sizeLine := by
      show ps.length ≤ _
      rw [lp, ← r.1] at *
      omega
    have rvs : Vals ((ts.take (i + 1)).map V.str) (ps ++ [.str t s'.toks]) := by
      rw [List.take_add_one, ht]
      simp only [Option.toList, List.map_append, List.map_cons, List.map_nil]
      exact rp.append (.cons ⟨_, rfl⟩ .nil)
    have lz : ((ts.take (i + 1)).map V.str).length ≤ sizeLine := by
      rw [List.length_map, List.length_take]
      omega
    have J := I3.lset (l := P) (f := fun p => p.push (.str t s'.toks)) (t' := s'.toks + 1) hP2 h2 (by simp) rvs lz
    refine wpAny_updateSeq h2 rfl (wpAny_pure ⟨F.quiet_list_repr_loop _, ?_⟩) pz
    have e1 : ((i : Int) + 1) = ((i + 1 : Nat) : Int) := by omega
    have e2 : base + piled (ts.take i) + (t.length + 2) = base + piled (ts.take (i + 1)) := by omega
    rw [e1, e2]
    have sP : ∀ b o, b ≠ P → H2 b = some o → upd H2 P (.lst ((ts.take (i + 1)).map V.str)) b = some o := fun b o hb e => by rw [upd_ne hb]; exact e
    have hs3 : Same H (upd H2 P (.lst ((ts.take (i + 1)).map V.str))) := fun b o e => sP b o (ne_of_none e hP0) (hs2 _ _ (hs _ _ e))
    refine ih (i + 1) _ _ (by omega) hlt J hs3 upd_same fun s4 H4 u4 I4 hs4 k4 => ?_
    exact hR s4 H4 u4 I4 hs4 fun b o hb e => k4 b o hb (sP b o hb (hs2 _ _ e))
end
section
variable {X : Cx} {G0 : List Code} {H : Hp} {a : Addr} {x0 : V} {r0 : List V} {ts : List Str} {S : Addr → Prop} {k base : Nat} {A : Around} {pins : List (Addr × Obj)} {σ : L2.St} {R : Result → Shared → Prop} {s : Shared} {H1 : Hp}
/-- a frame below is at work on this list -/
def lstF (a : Addr) : Code × Pos → Bool := fun
  | (.builtin "list.__repr__.loop" ⟨v :: _, _⟩, _) => Builtin.List.listSameRef v (.ref a)
  | _ => false
theorem lstF_off (a : Addr) (c : Code) (p : Pos) (h : c.isGuard = false) : lstF a (c, p) = false := by
  unfold lstF
  split
  · next heq => cases heq; simp [Code.isGuard, guardIds] at h
  · rfl
theorem lstF_pos (a : Addr) (c : Code) (p : Pos) : lstF a (c, p) = lstF a (c, default) := by
  cases c with
  | builtin id args =>
    obtain ⟨pos, kw⟩ := args
    cases pos with
    | nil =>
      have e : ∀ q, lstF a (Code.builtin id ⟨[], kw⟩, q) = false := fun q => by
        unfold lstF
        split
        · next heq => cases heq
        · rfl
      rw [e, e]
    | cons v rest =>
      unfold lstF
      split
      · next heq => cases heq; rfl
      · next h =>
        split
        · next heq => cases heq; exact absurd rfl (h _ _ _ _)
        · rfl
  | _ => rfl
def hitL (G0 : List Code) (a : Addr) : Bool := G0.any fun c => lstF a (c, default)
theorem hitL_no (h : hitL G0 a = false) (v : Value) (rest : List Value) (kw : List (Str × Value)) (hm : Code.builtin "list.__repr__.loop" ⟨v :: rest, kw⟩ ∈ G0) : Builtin.List.listSameRef v (.ref a) = false := by
  have z := List.any_eq_false.mp h _ hm
  cases q : Builtin.List.listSameRef v (.ref a) with
  | false => rfl
  | true => exact absurd (show lstF a (Code.builtin "list.__repr__.loop" ⟨v :: rest, kw⟩, default) = true from q) z
theorem hit_own (at_ : At X G0 k A S) (ha : H a = some (.lst (x0 :: r0))) (hit : hitL G0 a = true) (I : Inv X pins σ H1 s) (hs : Same H H1) {c : Code}
    (hR : ∀ s' u, Inv X pins σ H1 s' → R (.ok (.ret (.str "[...]" u))) s') :
    wpOwn (model X.prog X.w) A c (Builtin.listReprAt base ⟨[.ref a], []⟩)
      (fun fin s' => match fin with | .done f => R (.ok f) s' | .again c' => c'.quiet = true ∧ codeAny (model X.prog X.w) A c' R s') (fun e s' => R (.error e) s') s := by
  obtain ⟨g, g1, g2⟩ := at_.gd
  obtain ⟨its, na, h1, rv⟩ := lst_at I (hs _ _ ha)
  cases rv with
  | @cons _ u0 _ ur q0 q1 =>
    unfold Builtin.listReprAt
    refine wpOwn_bind (wpOwn_of_wpAny (show wpAny _ _ (pure (Value.ref a, ([] : List Value))) _ _ s from wpAny_pure ?_))
    refine wpOwn_bind (wpOwn_of_wpAny (wpAny_listItems h1 rfl ?_))
    rw [if_neg (by simp)]
    refine wpOwn_bind (wpOwn_stack fun p below hgd _ _ => ?_)
    have any : (((c, p) :: below).tail.any (lstF a)) = true := by
      show below.any (lstF a) = true
      rw [any_eq_guards (lstF_off a) (lstF_pos a), hgd _ g1, List.any_append, show (G0.any fun c => lstF a (c, default)) = true from hit, Bool.or_true]
    show wpOwn _ _ _ (if ((c, p) :: below).tail.any (lstF a) = true then _ else _) _ _ s
    rw [if_pos any]
    refine wpOwn_of_wpAny (wpAny_bind (wpAny_rule ?_))
    refine wpAny_bind (wpAny_mkStr (wpAny_pure ?_) (by decide +kernel))
    exact hR _ s.toks (I.tok (s.toks + 1))
theorem head_own (hno : hitL G0 a = false) (hn : ¬ S a) (at_ : At X G0 (k + 1) A (fun b => b = a ∨ S b)) (ha : H a = some (.lst (x0 :: r0))) (r : RpAll X G0 k S H (x0 :: r0) ts) (hsz : base + (listText ts).length ≤ sizeLine) (I : Inv X pins σ H1 s) (hs : Same H H1)
    (hR : ∀ s' H2 u, Inv X pins σ H2 s' → Same H1 H2 → R (.ok (.ret (.str (listText ts) u))) s') :
    wpAny (model X.prog X.w) A.in1 (Builtin.listReprAt base ⟨[.ref a], []⟩)
      (fun fin s' => match fin with | .done f => R (.ok f) s' | .again c' => c'.quiet = true ∧ codeAny (model X.prog X.w) A c' R s') (fun e s' => R (.error e) s') s := by
  obtain ⟨g, g1, g2⟩ := at_.gd
  obtain ⟨its, na, h1, rv⟩ := lst_at I (hs _ _ ha)
  have hca : Clear g a := g2 a (.inl rfl)
  cases rv with
  | @cons _ u0 _ ur q0 q1 =>
    refine wpAny_list_repr_head (A := A.in1) g1 (fun v rest kw hm => (List.mem_append.mp hm).elim (fun hm => listSameRef_of_ne (hca _ _ _ _ hm)) fun hm => hitL_no hno v rest kw hm) h1 rfl ?_
    refine wpAny_bind (m := newList []) (wpAny_newObj_type ?_)
    refine wpAny_pure ⟨F.quiet_list_repr_loop _, ?_⟩
    have hP : H1 s.heap.objs.size = none := I.hok.fresh (Nat.le_refl _)
    have J := I.lnew (its := []) (ys := []) (t' := s.toks) .nil (Nat.zero_le _)
    have hP0 : H s.heap.objs.size = none := hs.free hP
    have hne : a ≠ s.heap.objs.size := ne_of_none ha hP0
    have sm : Same H1 (upd H1 s.heap.objs.size (.lst [])) := fun b o e => by rw [upd_ne (ne_of_none e hP)]; exact e
    refine loop_own (P := s.heap.objs.size) hne hP0 hn (at_.less (Nat.le_refl _) fun b hb => .inr hb) ha r hsz _ 0 _ _ rfl (Nat.zero_le _) J (hs.trans sm) (by simpa using upd_same) fun s' H2 u I2 hs2 k2 => ?_
    exact hR s' H2 u I2 fun b o e => k2 b o (ne_of_none e hP) (sm b o e)
end
section
variable {X : Cx} {G0 : List Code} {H : Hp} {a : Addr} {x0 : V} {r0 : List V} {ts : List Str} {S : Addr → Prop} {k : Nat}
theorem RpU.lst (hno : hitL G0 a = false) (hn : ¬ S a) (ha : H a = some (.lst (x0 :: r0))) (r : RpAll X G0 k S H (x0 :: r0) ts) : RpU X G0 (k + 1) (fun b => b = a ∨ S b) H (.ref a) (listText ts) := by
  intro base A E pins σ s H1 u Q hb at_ I hs rv hq
  obtain rfl : u = Value.ref a := rv
  obtain ⟨its, na, h1, rv⟩ := lst_at I (hs _ _ ha)
  have hT : s.TypeIs (.ref a) "list" := ⟨_, h1, rfl⟩
  refine wpAny_pyReprUnder_ref (by omega) (wpAny_pyReprObjUnder_twin (twin := "list.__repr__.under") hT F.slot_list_repr.toG rfl (by have := at_.room.un; omega)
    (call_twin_plain F.plain_list_repr_under F.entry_list_repr_under F.check_list_repr_under hT F.slot_list_repr.toG (F.args_list_repr_1 _) ?_))
  exact head_own hno hn at_ ha r hb I hs fun s' H2 u I2 hs2 => ⟨⟨_, _, rfl⟩, _, _, rfl, hq s' H2 I2 hs2⟩
theorem RpT.lst (hno : hitL G0 a = false) (hn : ¬ S a) (ha : H a = some (.lst (x0 :: r0))) (r : RpAll X G0 k S H (x0 :: r0) ts) : RpT X G0 (k + 2) H (.ref a) (listText ts) := by
  intro A E pins σ s H1 u Q hz hg hf hr I hs rv hq
  obtain rfl : u = Value.ref a := rv
  obtain ⟨its, na, h1, rv⟩ := lst_at I (hs _ _ ha)
  have hT : s.TypeIs (.ref a) "list" := ⟨_, h1, rfl⟩
  have at_ : At X G0 (k + 2) A (fun b => b = a ∨ S b) := ⟨hf, hr, [], hg, fun b _ => Clear.nil b⟩
  refine call_repr_slot (by have := hr.un; omega) hT F.slot_list_repr.toG ?_
  refine wpAny_call (codeAny_call_builtin F.slot_list_repr.plain F.entry_list_repr (F.slot_list_repr.check _ _ _ _ _ _ _ _ hT (F.args_list_repr_1 _) ?_))
  exact head_own (base := 0) (A := A.in1) (R := fun r s' => match r with
    | .ok (.ret v) => ∃ x t, v = Value.str x t ∧ Q v s'
    | .ok _ => False
    | .error e => E e s') hno hn at_.in1 ha r (by omega) I hs fun s' H2 u I2 hs2 => ⟨_, _, rfl, hq s' H2 _ I2 hs2⟩
theorem RpU.lstHit (ha : H a = some (.lst (x0 :: r0))) (hit : hitL G0 a = true) : RpU X G0 0 (fun _ => False) H (.ref a) "[...]" := by
  intro base A E pins σ s H1 u Q hb at_ I hs rv hq
  obtain rfl : u = Value.ref a := rv
  obtain ⟨its, na, h1, rv⟩ := lst_at I (hs _ _ ha)
  have hT : s.TypeIs (.ref a) "list" := ⟨_, h1, rfl⟩
  refine wpAny_pyReprUnder_ref (by omega) (wpAny_pyReprObjUnder_twin (twin := "list.__repr__.under") hT F.slot_list_repr.toG rfl (by have := at_.room.un; omega)
    (call_twin_own (Code.quiet_builtin _ (by decide +kernel)) F.entry_list_repr_under F.check_list_repr_under hT F.slot_list_repr.toG (F.args_list_repr_1 _) ?_))
  exact hit_own at_ ha hit I hs fun s' u I2 => ⟨⟨_, _, rfl⟩, _, _, rfl, hq s' H1 I2 (Same.refl _)⟩
theorem RpT.lstHit (ha : H a = some (.lst (x0 :: r0))) (hit : hitL G0 a = true) : RpT X G0 1 H (.ref a) "[...]" := by
  intro A E pins σ s H1 u Q hz hg hf hr I hs rv hq
  obtain rfl : u = Value.ref a := rv
  obtain ⟨its, na, h1, rv⟩ := lst_at I (hs _ _ ha)
  have hT : s.TypeIs (.ref a) "list" := ⟨_, h1, rfl⟩
  have at_ : At X G0 1 A (fun _ => False) := ⟨hf, hr, [], hg, fun b z => z.elim⟩
  refine call_repr_slot (by have := hr.un; omega) hT F.slot_list_repr.toG ?_
  refine wpAny_call (codeAny_call_builtin_own (Code.quiet_builtin _ (by decide +kernel)) F.entry_list_repr (F.slot_list_repr.check _ _ _ _ _ _ _ _ hT (F.args_list_repr_1 _) ?_))
  exact hit_own (base := 0) (R := callEnd (fun v s' => ∃ x t, v = Value.str x t ∧ Q v s') E) at_.in1 ha hit I hs fun s' u I2 => ⟨_, _, rfl, hq s' H1 _ I2 (Same.refl _)⟩
theorem RpT.nilL (ha : H a = some (.lst [])) : RpT X G0 0 H (.ref a) "[]" := by
  intro A E pins σ s H1 u Q hz hg hf hr I hs rv hq
  obtain rfl : u = Value.ref a := rv
  obtain ⟨its, na, h1, rv⟩ := lst_at I (hs _ _ ha)
  cases rv
  have hT : s.TypeIs (.ref a) "list" := ⟨_, h1, rfl⟩
  exact call_repr_slot (by have := hr.un; omega) hT F.slot_list_repr.toG (call_list_repr_empty hT h1 rfl ⟨_, _, rfl, hq _ H1 _ (I.tok _) (Same.refl _)⟩)
/-- repr(v): wherever the guards are none -/
def rRepr (X : Cx) (G0 : List Code) : List V → Hp → VK → Prop := fun xs H Q => ∃ (v : V) (k : Nat) (t : Str), xs = [v] ∧ RpT X G0 k H v t ∧ Room k X.A ∧ t.length ≤ sizeLine ∧ ∀ H', Same H H' → Q (.str t) H'
theorem call_reprX (hg : X.A.guards = some G0) : CallR X (.builtin "repr") (rRepr X G0) := by
  intro pins s σ H xs us Q I r h
  obtain ⟨v, k, t, rfl, h, hr, hz, q⟩ := h
  obtain ⟨u, rfl, ru⟩ := Vals.one r
  exact h X.A X.xe pins σ s H u _ hz hg I.ok.frames hr I (Same.refl _) ru fun s' H2 tk I2 hs2 => ⟨.str t, H2, I2, ⟨tk, rfl⟩, q H2 hs2⟩
end
end K2

/-! repr of tuples and dicts that hold own instances. -/
namespace K2
open PySem PySem.Spec PyProof.Rows L2 K1
open Builtin

section
variable {X : Cx} {G0 : List Code} {H : Hp} {S : Addr → Prop} {k : Nat} {A : Around} {E : Value → Shared → Prop} {pins : List (Addr × Obj)} {σ : L2.St}
theorem tup_fold (at_ : At X G0 k A S) : ∀ (xs : List V) (us : List Value) (ts : List Str) (acc : Array Str) (n : Nat) (s : Shared) (H1 : Hp) (Q : (Array Str × Nat) → Shared → Prop),
    Vals xs us → RpAll X G0 k S H xs ts → n + piled ts ≤ sizeLine → Inv X pins σ H1 s → Same H H1 →
    (∀ s' H2, Inv X pins σ H2 s' → Same H1 H2 → Q ⟨acc ++ ts.toArray, n + piled ts⟩ s') →
    wpAny (model X.prog X.w) A (forIn us (⟨acc, n⟩ : (Array Str × Nat)) tupBody) Q E s := by
  intro xs
  induction xs with
  | nil =>
    intro us ts acc n s H1 Q r hT _ I hs h
    cases r
    have e : ts = [] := List.length_eq_zero_iff.mp hT.1
    subst e
    have h0 := h s H1 I (Same.refl _)
    simp only [List.forIn_nil]
    exact wpAny_pure (by simpa [piled] using h0)
  | cons x xs ih =>
    intro us ts acc n s H1 Q r hT hn I hs h
    cases r with
    | @cons _ u _ us' rx r' =>
      obtain ⟨t, ts', rfl⟩ : ∃ t ts', ts = t :: ts' := by
        cases ts with
        | nil => have := hT.1; simp at this
        | cons t ts' => exact ⟨t, ts', rfl⟩
      obtain ⟨hx, hl⟩ := hT.tail
      rw [piled_cons] at hn
      rw [List.forIn_cons]
      refine wpAny_bind (wpAny_bind (hx (n + 1) _ _ pins σ s H1 u _ (by omega) at_ I hs rx fun s' H2 I2 hs2 => wpAny_pure ?_))
      refine ih us' ts' (acc.push t) (n + (t.length + 2)) _ H2 Q r' hl (by omega) I2 (hs.trans hs2) fun s3 H3 I3 hs3 => ?_
      have h1 := h s3 H3 I3 (hs2.trans hs3)
      have e : n + piled (t :: ts') = n + (t.length + 2) + piled ts' := by rw [piled_cons]; omega
      rw [e] at h1
      simpa using h1
end

section
variable {X : Cx} {G0 : List Code} {H : Hp} {a : Addr} {xs : List V} {ts : List Str} {S : Addr → Prop} {k : Nat}
def hitT (G0 : List Code) (a : Addr) : Bool := G0.any fun c => tupGuardF (.ref a) (c, default)
def hitD (G0 : List Code) (a : Addr) : Bool := G0.any fun c => dictGuardF (.ref a) (c, default)
theorem own_tup (hno : hitT G0 a = false) (hn : ¬ S a) (ha : H a = some (.tup xs)) (r : RpAll X G0 k S H xs ts) {A : Around} {s : Shared} {H1 : Hp} {pins : List (Addr × Obj)} {σ : L2.St} {R : Result → Shared → Prop} {base : Nat} {id : String} {rest : List Value}
    (hcg : (Code.builtin id ⟨.ref a :: rest, []⟩).isGuard = true) (hw : (Code.builtin id ⟨.ref a :: rest, []⟩).weight = 1) (hcu : (A.under (.builtin id ⟨.ref a :: rest, []⟩)).units = A.units + 1)
    (at_ : At X G0 (k + 1) A (fun b => b = a ∨ S b)) (I : Inv X pins σ H1 s) (hs : Same H H1) (hsz : base + (tupleText ts).length ≤ sizeLine)
    (hR : ∀ s' H2 u, Inv X pins σ H2 s' → Same H1 H2 → R (.ok (.ret (.str (tupleText ts) u))) s') :
    wpOwn (model X.prog X.w) A (.builtin id ⟨.ref a :: rest, []⟩) (Builtin.tupleReprAt base ⟨[.ref a], []⟩) (fun fin s' => match fin with | .done f => R (.ok f) s' | .again c' => c'.quiet = true ∧ codeAny (model X.prog X.w) A c' R s') (fun e s' => R (.error e) s') s := by
  obtain ⟨g, hg, hcl⟩ := at_.gd
  obtain ⟨o, its, n, h1, h2, h3, rv⟩ := tup_at I (hs _ _ ha)
  have hca : Clear g a := hcl a (.inl rfl)
  have hlen : ts.length = its.toArray.size := by rw [r.1, rv.length]; simp
  have hp := piled_le_tupleText ts
  have hsz0 : (tupleText ts).length ≤ sizeLine := by omega
  rw [tuple_repr_tree, tupleReprUnderWay_eq]
  refine wpOwn_bind (wpOwn_stackTailAny hg (tupGuardF_off _) (tupGuardF_pos _) ?_)
  have hnn : ((g ++ G0).any fun c => tupGuardF (.ref a) (c, default)) = false := by
    rw [List.any_append, show (G0.any fun c => tupGuardF (.ref a) (c, default)) = false from hno, Bool.or_false, List.any_eq_false]
    intro c hcm
    rw [tupGuardF_of_clear hca c hcm]
    exact Bool.false_ne_true
  rw [hnn]
  refine wpOwn_of_wpAny ?_
  show wpAny _ _ (tupleReprRest base (.ref a)) _ _ s
  unfold tupleReprRest Builtin.Tuple.tupleItemsOf
  refine wpAny_bind (wpAny_bind (wpAny_seqItems h1 h3 (wpAny_pure ?_)))
  rw [← Array.forIn_toList]
  have a2 := (at_.less (j := k + 1) (U := S) (Nat.le_refl _) fun b hb => .inr hb).loop (rest := rest) hn hcg hw hcu
  refine wpAny_bind (tup_fold a2 xs its ts _ _ s H1 _ rv r (by omega) I hs fun s' H2 I2 hs2 => ?_)
  refine wpAny_bind (wpAny_mkStr (wpAny_pure ?_) (by simpa [tupleText, hlen] using hsz0))
  have h1 := hR _ H2 s'.toks (I2.tok (s'.toks + 1)) hs2
  simpa [tupleText, hlen] using h1
theorem RpU.tup (hno : hitT G0 a = false) (hn : ¬ S a) (ha : H a = some (.tup xs)) (r : RpAll X G0 k S H xs ts) : RpU X G0 (k + 1) (fun b => b = a ∨ S b) H (.ref a) (tupleText ts) := by
  intro base A E pins σ s H1 u Q hb at_ I hs rv hq
  obtain rfl : u = Value.ref a := rv
  obtain ⟨o, its, n, h1, h2, h3, rv⟩ := tup_at I (hs _ _ ha)
  have hT : s.TypeIs (.ref a) "tuple" := ⟨o, h1, h2⟩
  refine wpAny_pyReprUnder_ref (by omega) (wpAny_pyReprObjUnder_twin (twin := "tuple.__repr__.under") hT F.slot_tuple_repr rfl (by have := at_.room.un; omega)
    (call_twin_own (F.quiet_tuple_repr_under _) F.entry_tuple_repr_under F.check_tuple_repr_under hT F.slot_tuple_repr (F.args_tuple_repr_1 _) ?_))
  exact own_tup hno hn ha r (isGuard_tuple_repr_under _) (weight_tupU _) (units_under_tuple_repr_under _ _) at_ I hs hb fun s' H2 u I2 hs2 => ⟨⟨_, _, rfl⟩, _, _, rfl, hq s' H2 I2 hs2⟩
theorem RpT.tup (hno : hitT G0 a = false) (hn : ¬ S a) (ha : H a = some (.tup xs)) (r : RpAll X G0 k S H xs ts) : RpT X G0 (k + 2) H (.ref a) (tupleText ts) := by
  intro A E pins σ s H1 u Q hz hg hf hr I hs rv hq
  obtain rfl : u = Value.ref a := rv
  obtain ⟨o, its, n, h1, h2, h3, rv⟩ := tup_at I (hs _ _ ha)
  have hT : s.TypeIs (.ref a) "tuple" := ⟨o, h1, h2⟩
  have at_ : At X G0 (k + 2) A (fun b => b = a ∨ S b) := ⟨hf, hr, [], hg, fun b _ => Clear.nil b⟩
  refine call_repr_slot (by have := hr.un; omega) hT F.slot_tuple_repr ?_
  refine wpAny_call (codeAny_call_builtin_own (Code.quiet_builtin _ (by decide +kernel)) F.entry_tuple_repr (F.slot_tuple_repr.check _ _ _ _ _ _ _ _ hT (F.args_tuple_repr_1 _) ?_))
  exact own_tup (base := 0) (rest := []) (R := callEnd (fun v s' => ∃ x t, v = Value.str x t ∧ Q v s') E) hno hn ha r (isGuard_tuple_repr _) (weight_tup _) (units_under_tuple_repr _ _) at_.in1 I hs (by omega) fun s' H2 u I2 hs2 => ⟨_, _, rfl, hq s' H2 _ I2 hs2⟩
end

/-! ### dicts -/
/-- all but what stands at p -/
def hide (p : Addr) (H : Hp) : Hp := fun b => if b = p then none else H b
theorem hide_ne {p b : Addr} {H : Hp} (h : b ≠ p) : hide p H b = H b := if_neg h
theorem hide_of {p b : Addr} {H : Hp} {o : HO} (h : hide p H b = some o) : b ≠ p ∧ H b = some o := by
  unfold hide at h
  by_cases e : b = p
  · rw [if_pos e] at h; cases h
  · rw [if_neg e] at h; exact ⟨e, h⟩
theorem hide_same {p : Addr} {H : Hp} : Same (hide p H) H := fun b o e => (hide_of e).2
/-- each entry is shown by its key's text and its value's -/
def RpEnt (X : Cx) (G0 : List Code) (k : Nat) (S : Addr → Prop) (H : Hp) (kvs : List (Key × V)) (ps : List Str) : Prop :=
  ps.length = kvs.length ∧ ∀ (i : Nat) (p : Key × V), kvs[i]? = some p → ∃ tk tv : Str, ps[i]? = some (tk ++ ": " ++ tv) ∧ (∀ u, keyIs p.1 u = true → ReprIs X.prog X.w u tk) ∧ RpU X G0 k S H p.2 tv
/-- the entries of a dict's object -/
theorem dct_ent {P : Program} {w : World} {H : Hp} {h : Heap} {a : Addr} {kvs : List (Key × V)} {o : Obj} (x : ObjOk P w H h a (.dK kvs)) (ho : h.get? a = some o) :
    ∃ (es : Array DictEntry) (n : Nat), o.cls = .type "dict" ∧ o.data = .dict es n ∧ (a == sysModules) = false ∧ es.size = kvs.length ∧
      ∀ (i : Nat) (p : Key × V) (e : DictEntry), kvs[i]? = some p → es[i]? = some e → keyIs p.1 e.key = true ∧ RelV p.2 e.val := by
  obtain ⟨_, hsys, vs, kvr, o', es, ep, h1, h2, h3, _, h5, _⟩ := x
  rw [ho] at h1
  cases h1
  have go : ∀ (kvs : List (Key × V)) (vs : List (Key × Value)) (l : List DictEntry), KV kvs vs → Pairs (mixKind P w) l vs → l.length = kvs.length ∧
      ∀ (i : Nat) (p : Key × V) (e : DictEntry), kvs[i]? = some p → l[i]? = some e → keyIs p.1 e.key = true ∧ RelV p.2 e.val := by
    intro kvs
    induction kvs with
    | nil =>
      intro vs l r z
      cases r
      cases z
      exact ⟨rfl, fun i p e h => by simp at h⟩
    | cons q kvs ih =>
      intro vs l r z
      cases r with
      | @cons _ w _ vs' r0 r1 =>
        cases z with
        | @cons e0 _ es' _ hk hv hr =>
          obtain ⟨i1, i2⟩ := ih _ _ r1 hr
          refine ⟨by simp [i1], fun i p e hp he => ?_⟩
          cases i with
          | zero =>
            simp at hp he
            subst hp he
            rw [r0.1]
            exact ⟨hk, by rw [hv]; exact r0.2⟩
          | succ i => exact i2 i p e (by simpa using hp) (by simpa using he)
  obtain ⟨g1, g2⟩ := go kvs vs es.toList kvr h5
  exact ⟨es, ep, h2.1, h3, hsys, by simpa using g1, fun i p e hp he => g2 i p e hp (by simpa using he)⟩
section
variable {X : Cx} {G0 : List Code} {H : Hp} {a : Addr} {kvs : List (Key × V)} {ps : List Str} {S : Addr → Prop} {k : Nat}
theorem own_dct (hno : hitD G0 a = false) (hn : ¬ S a) (ha : H a = some (.dK kvs)) (r : RpEnt X G0 k S (hide a H) kvs ps) {A : Around} {s : Shared} {H1 : Hp} {pins : List (Addr × Obj)} {σ : L2.St} {R : Result → Shared → Prop} {base : Nat} {id : String} {rest : List Value}
    (hcg : (Code.builtin id ⟨.ref a :: rest, []⟩).isGuard = true) (hw : (Code.builtin id ⟨.ref a :: rest, []⟩).weight = 1) (hcu : (A.under (.builtin id ⟨.ref a :: rest, []⟩)).units = A.units + 1)
    (at_ : At X G0 (k + 1) A (fun b => b = a ∨ S b)) (I : Inv X pins σ H1 s) (hs : Same H H1) (hsz : base + (dictText ps).length ≤ sizeLine)
    (hR : ∀ s' H2 u, Inv X pins σ H2 s' → Same H1 H2 → R (.ok (.ret (.str (dictText ps) u))) s') :
    wpOwn (model X.prog X.w) A (.builtin id ⟨.ref a :: rest, []⟩) (Builtin.dictReprAt base ⟨[.ref a], []⟩) (fun fin s' => match fin with | .done f => R (.ok f) s' | .again c' => c'.quiet = true ∧ codeAny (model X.prog X.w) A c' R s') (fun e s' => R (.error e) s') s := by
  obtain ⟨g, hg, hcl⟩ := at_.gd
  have ha1 := hs _ _ ha
  obtain ⟨o, IL⟩ := I.lock ha1 trivial
  obtain ⟨h1, hok⟩ := (show ObjOk X.prog X.w (upd H1 a (.frz o (.dK kvs))) s.heap a (.frz o (.dK kvs)) from IL.hok a _ upd_same)
  obtain ⟨es, n, h2, h3, hsys, hsz1, hent⟩ := dct_ent hok h1
  have hTy : s.TypeIs (.ref a) "dict" := ⟨o, h1, h2⟩
  have hca : Clear g a := hcl a (.inl rfl)
  have hlen : ps.length = es.size := by rw [r.1, hsz1]
  have hp3 := piled_le_dictText ps
  have hsz0 : (dictText ps).length ≤ sizeLine := by omega
  have hsL : Same (hide a H) (upd H1 a (.frz o (.dK kvs))) := fun b u e => by
    obtain ⟨e1, e2⟩ := hide_of e
    rw [upd_ne e1]
    exact hs _ _ e2
  unfold Builtin.dictReprAt
  refine wpOwn_bind (wpOwn_of_wpAny ?_)
  unfold Builtin.Dict.dictSlotNone
  refine wpAny_bind (wpAny_notOrdered_dict hTy ?_)
  show wpAny _ _ (pure (Value.ref a)) _ _ s
  refine wpAny_pure ?_
  rw [dictReprRunning_eq]
  refine wpOwn_bind (wpOwn_stackTailAny hg (dictGuardF_off _) (dictGuardF_pos _) ?_)
  have hnn : ((g ++ G0).any fun c => dictGuardF (.ref a) (c, default)) = false := by
    rw [List.any_append, show (G0.any fun c => dictGuardF (.ref a) (c, default)) = false from hno, Bool.or_false, List.any_eq_false]
    intro c hcm
    rw [dictGuardF_of_clear hca c hcm]
    exact Bool.false_ne_true
  rw [hnn]
  refine wpOwn_of_wpAny ?_
  have a2 := (at_.less (j := k + 1) (U := S) (Nat.le_refl _) fun b hb => .inr hb).loop (rest := rest) hn hcg hw hcu
  show wpAny _ _ (Builtin.Dict.addrOf (.ref a) >>= _) _ _ s
  refine wpAny_bind (wpAny_pure ?_)
  show wpAny _ _ (Builtin.Dict.showsAll a >>= _) _ _ s
  unfold Builtin.Dict.showsAll
  rw [if_neg (by rw [hsys]; exact Bool.false_ne_true)]
  refine wpAny_bind (wpAny_pure ?_)
  refine wpAny_bind (wpAny_dictEpoch h1 h3 ?_)
  refine wpAny_bind (wpAny_dictEntries h1 h3 ?_)
  refine wpAny_bind ?_
  rw [Std.Legacy.Range.forIn_eq_forIn_range']
  simp only [Std.Legacy.Range.size, Nat.sub_zero, Nat.add_sub_cancel, Nat.div_one]
  refine wpAny_forIn_list _
    (fun rest' r s' => ∃ i H2, rest' = List.range' i (es.size - i) ∧ i ≤ es.size ∧ r = (⟨(ps.take i).toArray, base + piled (ps.take i)⟩ : (Array Str × Nat)) ∧ Inv X pins σ H2 s' ∧ Same (upd H1 a (.frz o (.dK kvs))) H2)
    _ ?_ ?_ _ _ ⟨0, _, by simp, Nat.zero_le _, by simp [piled], IL, Same.refl _⟩
  · rintro x rest' _ s' ⟨i, H2, hr, hi, rfl, I2, hs2⟩
    have hlt : i < es.size := by
      rcases Nat.lt_or_ge i es.size with h | h
      · exact h
      · rw [Nat.sub_eq_zero_of_le h] at hr; simp at hr
    obtain ⟨rfl, hrest⟩ : x = i ∧ rest' = List.range' (i + 1) (es.size - (i + 1)) := by
      have e : es.size - i = (es.size - (i + 1)) + 1 := by omega
      rw [e, List.range'_succ] at hr
      injection hr with h1 h2
      exact ⟨h1, h2⟩
    have hlt2 : x < kvs.length := by omega
    obtain ⟨tk, tv, hp, rk, rv⟩ := r.2 x kvs[x] (List.getElem?_eq_getElem hlt2)
    obtain ⟨ek, ev⟩ := hent x kvs[x] es[x] (List.getElem?_eq_getElem hlt2) (Array.getElem?_eq_getElem hlt)
    have hpl : (tk ++ ": " ++ tv).length = tk.length + 2 + tv.length := by
      rw [strLen_append, strLen_append]; rfl
    have hp1 := piled_take_succ hp
    have hp2 := piled_take_le ps (x + 1)
    rw [hpl] at hp1
    obtain ⟨g1, _⟩ := (show ObjOk X.prog X.w H2 s'.heap a (.frz o (.dK kvs)) from I2.hok a _ (hs2 _ _ upd_same))
    refine wpAny_bind (wpAny_dictEntries g1 h3 ?_)
    rw [Array.getElem?_eq_getElem hlt]
    refine wpAny_bind (wpAny_holding (wpAny_bind (rk _ ek (base + piled (ps.take x) + 1) (by omega) _ _ _ _ fun tk1 => ?_)))
    have I2 := I2.tok tk1
    refine wpAny_bind (rv (base + piled (ps.take x) + (tk.length + 3)) _ _ pins σ _ H2 _ _ (by omega) a2 I2 (hsL.trans hs2) ev fun s3 H3 I3 hs3 => wpAny_pure ?_)
    have hs13 := hs2.trans hs3
    obtain ⟨g2, _⟩ := (show ObjOk X.prog X.w H3 s3.heap a (.frz o (.dK kvs)) from I3.hok a _ (hs13 _ _ upd_same))
    refine wpAny_bind (wpAny_dictEpoch g2 h3 ?_)
    rw [if_neg (by simp)]
    have e1 : (ps.take x).toArray.push (tk ++ ": " ++ tv) = (ps.take (x + 1)).toArray := by
      rw [List.take_add_one, hp]
      simp
    have e2 : base + piled (ps.take x) + (tk.length + tv.length + 4) = base + piled (ps.take (x + 1)) := by omega
    refine wpAny_pure ⟨x + 1, H3, hrest, hlt, ?_, I3, hs13⟩
    rw [e1, e2]
  · rintro _ s' ⟨i, H2, hr, hi, rfl, I2, hs2⟩
    have hin : i = es.size := by
      rcases Nat.lt_or_ge i es.size with h | h
      · have e : es.size - i = (es.size - (i + 1)) + 1 := by omega
        rw [e, List.range'_succ] at hr; exact nomatch hr
      · exact Nat.le_antisymm hi h
    rw [hin, ← hlen, List.take_length]
    refine wpAny_bind (wpAny_mkStr (wpAny_pure ?_) (by simpa [dictText] using hsz0))
    have IU := I2.unlock (hs2 _ _ upd_same) (I.nofrz ha1 trivial)
    have hsU : Same H1 (upd H2 a (.dK kvs)) := fun b u e => by
      by_cases hb : b = a
      · subst hb; rw [ha1] at e; cases e; exact upd_same
      · rw [upd_ne hb]; exact hs2 _ _ (by rw [upd_ne hb]; exact e)
    have h1 := hR _ _ s'.toks (IU.tok (s'.toks + 1)) hsU
    simpa [dictText] using h1
theorem RpU.dct (hno : hitD G0 a = false) (hn : ¬ S a) (ha : H a = some (.dK kvs)) (r : RpEnt X G0 k S (hide a H) kvs ps) : RpU X G0 (k + 1) (fun b => b = a ∨ S b) H (.ref a) (dictText ps) := by
  intro base A E pins σ s H1 u Q hb at_ I hs rv hq
  obtain rfl : u = Value.ref a := rv
  obtain ⟨o, h1⟩ : ∃ o, s.heap.get? a = some o := by
    obtain ⟨_, _, _, _, o, _, _, e, _⟩ := (show ObjOk X.prog X.w H1 s.heap a (.dK kvs) from I.hok a _ (hs _ _ ha))
    exact ⟨o, e⟩
  obtain ⟨_, _, h2, _⟩ := dct_ent (show ObjOk X.prog X.w H1 s.heap a (.dK kvs) from I.hok a _ (hs _ _ ha)) h1
  have hT : s.TypeIs (.ref a) "dict" := ⟨o, h1, h2⟩
  refine wpAny_pyReprUnder_ref (by omega) (wpAny_pyReprObjUnder_twin (twin := "dict.__repr__.under") hT F.slot_dict_repr rfl (by have := at_.room.un; omega)
    (call_twin_own (F.quiet_dict_repr_under _) F.entry_dict_repr_under F.check_dict_repr_under hT F.slot_dict_repr (F.args_dict_repr_1 _) ?_))
  exact own_dct hno hn ha r (isGuard_dict_repr_under _) (weight_dctU _) (units_under_dict_repr_under _ _) at_ I hs hb fun s' H2 u I2 hs2 => ⟨⟨_, _, rfl⟩, _, _, rfl, hq s' H2 I2 hs2⟩
theorem RpT.dct (hno : hitD G0 a = false) (hn : ¬ S a) (ha : H a = some (.dK kvs)) (r : RpEnt X G0 k S (hide a H) kvs ps) : RpT X G0 (k + 2) H (.ref a) (dictText ps) := by
  intro A E pins σ s H1 u Q hz hg hf hr I hs rv hq
  obtain rfl : u = Value.ref a := rv
  obtain ⟨o, h1⟩ : ∃ o, s.heap.get? a = some o := by
    obtain ⟨_, _, _, _, o, _, _, e, _⟩ := (show ObjOk X.prog X.w H1 s.heap a (.dK kvs) from I.hok a _ (hs _ _ ha))
    exact ⟨o, e⟩
  obtain ⟨_, _, h2, _⟩ := dct_ent (show ObjOk X.prog X.w H1 s.heap a (.dK kvs) from I.hok a _ (hs _ _ ha)) h1
  have hT : s.TypeIs (.ref a) "dict" := ⟨o, h1, h2⟩
  have at_ : At X G0 (k + 2) A (fun b => b = a ∨ S b) := ⟨hf, hr, [], hg, fun b _ => Clear.nil b⟩
  refine call_repr_slot (by have := hr.un; omega) hT F.slot_dict_repr ?_
  refine wpAny_call (codeAny_call_builtin_own (Code.quiet_builtin _ (by decide +kernel)) F.entry_dict_repr (F.slot_dict_repr.check _ _ _ _ _ _ _ _ hT (F.args_dict_repr_1 _) ?_))
  exact own_dct (base := 0) (rest := []) (R := callEnd (fun v s' => ∃ x t, v = Value.str x t ∧ Q v s') E) hno hn ha r (isGuard_dict_repr _) (weight_dct _) (units_under_dict_repr _ _) at_.in1 I hs (by omega) fun s' H2 u I2 hs2 => ⟨_, _, rfl, hq s' H2 _ I2 hs2⟩
/-! a frame below is at work on it -/
theorem hit_tup {A : Around} {s : Shared} {H1 : Hp} {pins : List (Addr × Obj)} {σ : L2.St} {R : Result → Shared → Prop} {base : Nat} {c : Code} (hit : hitT G0 a = true) (at_ : At X G0 k A S) (I : Inv X pins σ H1 s) (hR : ∀ s' u, Inv X pins σ H1 s' → R (.ok (.ret (.str "(...)" u))) s') :
    wpOwn (model X.prog X.w) A c (Builtin.tupleReprAt base ⟨[.ref a], []⟩) (fun fin s' => match fin with | .done f => R (.ok f) s' | .again c' => c'.quiet = true ∧ codeAny (model X.prog X.w) A c' R s') (fun e s' => R (.error e) s') s := by
  obtain ⟨g, hg, hcl⟩ := at_.gd
  rw [tuple_repr_tree, tupleReprUnderWay_eq]
  refine wpOwn_bind (wpOwn_stackTailAny hg (tupGuardF_off _) (tupGuardF_pos _) ?_)
  rw [List.any_append, show (G0.any fun c => tupGuardF (.ref a) (c, default)) = true from hit, Bool.or_true, if_pos rfl]
  refine wpOwn_of_wpAny (wpAny_bind (wpAny_rule ?_))
  refine wpAny_bind (wpAny_mkStr (wpAny_pure ?_) (by decide +kernel))
  exact hR _ s.toks (I.tok (s.toks + 1))
theorem hit_dct {A : Around} {s : Shared} {H1 : Hp} {pins : List (Addr × Obj)} {σ : L2.St} {R : Result → Shared → Prop} {base : Nat} {c : Code} (hit : hitD G0 a = true) (hTy : s.TypeIs (.ref a) "dict") (at_ : At X G0 k A S) (I : Inv X pins σ H1 s) (hR : ∀ s' u, Inv X pins σ H1 s' → R (.ok (.ret (.str "{...}" u))) s') :
    wpOwn (model X.prog X.w) A c (Builtin.dictReprAt base ⟨[.ref a], []⟩) (fun fin s' => match fin with | .done f => R (.ok f) s' | .again c' => c'.quiet = true ∧ codeAny (model X.prog X.w) A c' R s') (fun e s' => R (.error e) s') s := by
  obtain ⟨g, hg, hcl⟩ := at_.gd
  unfold Builtin.dictReprAt
  refine wpOwn_bind (wpOwn_of_wpAny ?_)
  unfold Builtin.Dict.dictSlotNone
  refine wpAny_bind (wpAny_notOrdered_dict hTy ?_)
  show wpAny _ _ (pure (Value.ref a)) _ _ s
  refine wpAny_pure ?_
  rw [dictReprRunning_eq]
  refine wpOwn_bind (wpOwn_stackTailAny hg (dictGuardF_off _) (dictGuardF_pos _) ?_)
  rw [List.any_append, show (G0.any fun c => dictGuardF (.ref a) (c, default)) = true from hit, Bool.or_true, if_pos rfl]
  refine wpOwn_of_wpAny (wpAny_bind (wpAny_rule ?_))
  refine wpAny_bind (wpAny_mkStr (wpAny_pure ?_) (by decide +kernel))
  exact hR _ s.toks (I.tok (s.toks + 1))
theorem RpU.tupHit {xs : List V} (ha : H a = some (.tup xs)) (hit : hitT G0 a = true) : RpU X G0 0 (fun _ => False) H (.ref a) "(...)" := by
  intro base A E pins σ s H1 u Q hb at_ I hs rv hq
  obtain rfl : u = Value.ref a := rv
  obtain ⟨o, its, n, h1, h2, h3, rv⟩ := tup_at I (hs _ _ ha)
  have hT : s.TypeIs (.ref a) "tuple" := ⟨o, h1, h2⟩
  refine wpAny_pyReprUnder_ref (by omega) (wpAny_pyReprObjUnder_twin (twin := "tuple.__repr__.under") hT F.slot_tuple_repr rfl (by have := at_.room.un; omega)
    (call_twin_own (F.quiet_tuple_repr_under _) F.entry_tuple_repr_under F.check_tuple_repr_under hT F.slot_tuple_repr (F.args_tuple_repr_1 _) ?_))
  exact hit_tup hit at_ I fun s' u I2 => ⟨⟨_, _, rfl⟩, _, _, rfl, hq s' H1 I2 (Same.refl _)⟩
theorem RpT.tupHit {xs : List V} (ha : H a = some (.tup xs)) (hit : hitT G0 a = true) : RpT X G0 1 H (.ref a) "(...)" := by
  intro A E pins σ s H1 u Q hz hg hf hr I hs rv hq
  obtain rfl : u = Value.ref a := rv
  obtain ⟨o, its, n, h1, h2, h3, rv⟩ := tup_at I (hs _ _ ha)
  have hT : s.TypeIs (.ref a) "tuple" := ⟨o, h1, h2⟩
  have at_ : At X G0 1 A (fun _ => False) := ⟨hf, hr, [], hg, fun b z => z.elim⟩
  refine call_repr_slot (by have := hr.un; omega) hT F.slot_tuple_repr ?_
  refine wpAny_call (codeAny_call_builtin_own (Code.quiet_builtin _ (by decide +kernel)) F.entry_tuple_repr (F.slot_tuple_repr.check _ _ _ _ _ _ _ _ hT (F.args_tuple_repr_1 _) ?_))
  exact hit_tup (base := 0) (R := callEnd (fun v s' => ∃ x t, v = Value.str x t ∧ Q v s') E) hit at_.in1 I fun s' u I2 => ⟨_, _, rfl, hq s' H1 _ I2 (Same.refl _)⟩
theorem RpU.dctHit (ha : H a = some (.dK kvs)) (hit : hitD G0 a = true) : RpU X G0 0 (fun _ => False) H (.ref a) "{...}" := by
  intro base A E pins σ s H1 u Q hb at_ I hs rv hq
  obtain rfl : u = Value.ref a := rv
  obtain ⟨o, h1⟩ : ∃ o, s.heap.get? a = some o := by
    obtain ⟨_, _, _, _, o, _, _, e, _⟩ := (show ObjOk X.prog X.w H1 s.heap a (.dK kvs) from I.hok a _ (hs _ _ ha))
    exact ⟨o, e⟩
  obtain ⟨_, _, h2, _⟩ := dct_ent (show ObjOk X.prog X.w H1 s.heap a (.dK kvs) from I.hok a _ (hs _ _ ha)) h1
  have hT : s.TypeIs (.ref a) "dict" := ⟨o, h1, h2⟩
  refine wpAny_pyReprUnder_ref (by omega) (wpAny_pyReprObjUnder_twin (twin := "dict.__repr__.under") hT F.slot_dict_repr rfl (by have := at_.room.un; omega)
    (call_twin_own (F.quiet_dict_repr_under _) F.entry_dict_repr_under F.check_dict_repr_under hT F.slot_dict_repr (F.args_dict_repr_1 _) ?_))
  exact hit_dct hit hT at_ I fun s' u I2 => ⟨⟨_, _, rfl⟩, _, _, rfl, hq s' H1 I2 (Same.refl _)⟩
theorem RpT.dctHit (ha : H a = some (.dK kvs)) (hit : hitD G0 a = true) : RpT X G0 1 H (.ref a) "{...}" := by
  intro A E pins σ s H1 u Q hz hg hf hr I hs rv hq
  obtain rfl : u = Value.ref a := rv
  obtain ⟨o, h1⟩ : ∃ o, s.heap.get? a = some o := by
    obtain ⟨_, _, _, _, o, _, _, e, _⟩ := (show ObjOk X.prog X.w H1 s.heap a (.dK kvs) from I.hok a _ (hs _ _ ha))
    exact ⟨o, e⟩
  obtain ⟨_, _, h2, _⟩ := dct_ent (show ObjOk X.prog X.w H1 s.heap a (.dK kvs) from I.hok a _ (hs _ _ ha)) h1
  have hT : s.TypeIs (.ref a) "dict" := ⟨o, h1, h2⟩
  have at_ : At X G0 1 A (fun _ => False) := ⟨hf, hr, [], hg, fun b z => z.elim⟩
  refine call_repr_slot (by have := hr.un; omega) hT F.slot_dict_repr ?_
  refine wpAny_call (codeAny_call_builtin_own (Code.quiet_builtin _ (by decide +kernel)) F.entry_dict_repr (F.slot_dict_repr.check _ _ _ _ _ _ _ _ hT (F.args_dict_repr_1 _) ?_))
  exact hit_dct (base := 0) (R := callEnd (fun v s' => ∃ x t, v = Value.str x t ∧ Q v s') E) hit hT at_.in1 I fun s' u I2 => ⟨_, _, rfl, hq s' H1 _ I2 (Same.refl _)⟩
end
end K2

/-! == of nested values that may hold instances of an own class. -/
namespace K2
open PySem PySem.Spec PyProof.Rows L2 K1
open SeqAt AutoSeq1 MeetsSeq MeetsSeq2 MeetsSeq3

/-- code that runs at A for the body X: the same frames, room -/
structure Af (X : Cx) (k : Nat) (A : Around) : Prop where
  fr : A.frames = some X.stack
  room : Room k A
theorem Af.env0 {X : Cx} {k : Nat} {A : Around} {pins : List (Addr × Obj)} {σ : L2.St} {H : Hp} {s : Shared} (t : Af X k A) (I : Inv X pins σ H s) : Env0 X.prog X.w X.K X.mg X.base A X.stack s H := by
  have e := I.env0
  exact ⟨t.fr, e.mod, e.bs, e.bsz, e.funs, e.frf, e.hok, e.bare⟩
theorem Af.in1 {X : Cx} {k : Nat} {A : Around} (t : Af X (k + 1) A) : Af X k A.in1 := ⟨t.fr, t.room.in1⟩
theorem Af.less {X : Cx} {j k : Nat} {A : Around} (t : Af X k A) (h : j ≤ k) : Af X j A := ⟨t.fr, t.room.mono h⟩
theorem run_af {X : Cx} {k : Nat} {A : Around} {f : Addr} {fd : FuncData} {ps : List Str} {sp : Sp} {pins : List (Addr × Obj)} {σ : L2.St} {H : Hp} {s : Shared} {Q : VK} {us : List Value} {vs : List V} {E : Value → Shared → Prop}
    (F : FnOk X.prog X.w X.K X.mg X.base CX0 k f fd ps sp) (t : Af X k A) (hb : Binds X.K fd ps []) (I : Inv X pins σ H s) (r : Vals vs us) (h : sp vs H Q E0) :
    wpAny (model X.prog X.w) A (call (.ref f) us) (EP X pins σ Q) E s := by
  have hl : us.length = ps.length := by rw [← r.length]; exact F.len _ _ _ _ h
  have b1 := hb s us I.kIn (by rw [List.append_nil]; exact hl)
  rw [List.append_nil] at b1
  refine wpAny_call (codeAny_mono (F.run A X.stack s H ⟨us, []⟩ us vs Q E0 t.room (t.env0 I) b1 r h) fun r s' hq => ?_)
  cases r with
  | error e => exact False.elim hq
  | ok fl =>
    cases fl with
    | ret u => exact I.after hq
    | next => exact False.elim hq
    | brk => exact False.elim hq
    | cont => exact False.elim hq

/-- v == v', by eqBool and by richCompare, tells b wherever it is reached -/
def EqU (X : Cx) (k : Nat) (H : Hp) (v v' : V) (b : Bool) : Prop :=
  ∀ (A : Around) (E : Value → Shared → Prop) (pins : List (Addr × Obj)) (σ : L2.St) (s : Shared) (H1 : Hp) (u u' : Value) (Q : Bool → Shared → Prop), Af X k A → Inv X pins σ H1 s → Same H H1 → RelV v u → RelV v' u' →
    (∀ s' H2, Inv X pins σ H2 s' → Same H1 H2 → Q b s') → wpAny (model X.prog X.w) A (eqBool u u') Q E s
def RcU (X : Cx) (k : Nat) (H : Hp) (v v' : V) (b : Bool) : Prop :=
  ∀ (A : Around) (E : Value → Shared → Prop) (pins : List (Addr × Obj)) (σ : L2.St) (s : Shared) (H1 : Hp) (u u' : Value) (Q : Value → Shared → Prop), Af X k A → Inv X pins σ H1 s → Same H H1 → RelV v u → RelV v' u' →
    (∀ s' H2, Inv X pins σ H2 s' → Same H1 H2 → Q (.bool b) s') → wpAny (model X.prog X.w) A (richCompare .Eq u u') Q E s
theorem EqU.more {X : Cx} {j k : Nat} {H : Hp} {v v' : V} {b : Bool} (r : EqU X j H v v' b) (h : j ≤ k) : EqU X k H v v' b :=
  fun A E pins σ s H1 u u' Q a I hs r1 r2 hq => r A E pins σ s H1 u u' Q (a.less h) I hs r1 r2 hq
/-- data that the library compares -/
theorem EqU.of_at {X : Cx} {k : Nat} {H : Hp} {v v' : V} {b : Bool} (h : ∀ (A : Around) (s : Shared) (H1 : Hp) (pins : List (Addr × Obj)) (σ : L2.St) (u u' : Value), A.units < cLine → Inv X pins σ H1 s → Same H H1 → RelV v u → RelV v' u' → EqAt A s u u' b) : EqU X k H v v' b :=
  fun A E pins σ s H1 u u' Q a I hs r1 r2 hq => h A s H1 pins σ u u' (by have := a.room.un; omega) I hs r1 r2 X.prog X.w E Q (hq s H1 I (Same.refl _))
/-- two refs: the same one, or as they are compared -/
theorem EqU.of_rc {X : Cx} {k : Nat} {H : Hp} {a c : Addr} {b : Bool} (h0 : a = c → b = true) (h : RcU X k H (.ref a) (.ref c) b) : EqU X k H (.ref a) (.ref c) b := by
  intro A E pins σ s H1 u u' Q at_ I hs r1 r2 hq
  obtain rfl : u = Value.ref a := r1
  obtain rfl : u' = Value.ref c := r2
  unfold eqBool
  refine wpAny_holding ?_
  refine wpAny_ite_split (fun hab => ?_) (fun _ => ?_)
  · have e : a = c := by have := eq_of_beq hab; injection this
    have e := h0 e
    subst e
    exact wpAny_bind (wpAny_rule (wpAny_pure (hq s H1 I (Same.refl _))))
  · exact wpAny_bind (h A E pins σ s H1 _ _ _ at_ I hs rfl rfl fun s' H2 I2 hs2 => wpAny_truthy_bool (hq s' H2 I2 hs2))

/-! ### tuples -/
/-- two lists compared item by item, as far as both go: b tells whether all are equal -/
inductive EqL (X : Cx) (k : Nat) (H : Hp) : List V → List V → Bool → Prop
  | nilL {ys : List V} : EqL X k H [] ys true
  | nilR {xs : List V} : EqL X k H xs [] true
  | no {x y : V} {xs ys : List V} : EqU X k H x y false → EqL X k H (x :: xs) (y :: ys) false
  | yes {x y : V} {xs ys : List V} {b : Bool} : EqU X k H x y true → EqL X k H xs ys b → EqL X k H (x :: xs) (y :: ys) b
section
variable {X : Cx} {H : Hp} {a c : Addr} {xs ys : List V} {k : Nat} {b : Bool}
theorem tup_eq_run (e : EqL X k H xs ys b) (hx : H a = some (.tup xs)) (hy : H c = some (.tup ys)) {A : Around} {pins : List (Addr × Obj)} {σ : L2.St} {s : Shared} {H1 : Hp} {R : Result → Shared → Prop} (at_ : Af X (k + 1) A) (I : Inv X pins σ H1 s) (hs : Same H H1)
    (hR : ∀ s' H2, Inv X pins σ H2 s' → Same H1 H2 → R (.ok (.ret (.bool (b && xs.length == ys.length)))) s') :
    wpAny (model X.prog X.w) A.in1 (Builtin.«tuple.__eq__» ⟨[.ref a, .ref c], []⟩) (fun fin s' => ∃ v, fin = .done (.ret v) ∧ R (.ok (.ret v)) s') (fun e s' => R (.error e) s') s := by
  obtain ⟨oa, its, na, h1, h2, h3, rx⟩ := tup_at I (hs _ _ hx)
  obtain ⟨oc, its2, nc, g1, g2, g3, ry⟩ := tup_at I (hs _ _ hy)
  obtain ⟨cls, dd, data, sl⟩ := oa
  obtain ⟨cls2, dd2, data2, sl2⟩ := oc
  simp only at h2 h3 g2 g3
  subst h2 h3 g2 g3
  have f2 := AutoSeq1.sub_tuple_tuple
  have l1 := rx.length
  have l2 := ry.length
  obtain ⟨hp, g, d, tk, os⟩ := s
  wp_walk using wpAny_loadPart' h1, wpAny_loadPart' g1, wpAny_forIn_list _ (fun rest b' s' => b'.1 = none ∧ ∃ xs' ys' us ws H2, rest = us.zip ws ∧ Vals xs' us ∧ Vals ys' ws ∧ EqL X k H xs' ys' b ∧ Inv X pins σ H2 s' ∧ Same H1 H2) _
  case turn =>
    rintro ⟨y, x⟩ rest b' s' ⟨hb', xs', ys', us, ws, H2, hz, ru, rw, el, I2, hs2⟩
    cases ru with
    | nil => simp at hz
    | @cons p u ps us' q1 q2 =>
      cases rw with
      | nil => simp at hz
      | @cons p' w ps' ws' q3 q4 =>
        rw [List.zip_cons_cons] at hz
        injection hz with hyx hrest
        injection hyx with e1 e2
        subst e1 e2
        cases el with
        | no h =>
          refine wpAny_bind (h A.in1 _ pins σ s' H2 _ _ _ at_.in1 I2 (hs.trans hs2) q1 q3 fun s3 H3 I3 hs3 => ?_)
          have z := hR s3 H3 I3 (hs2.trans hs3)
          rw [Bool.false_and] at z
          wp_walk
          exact ⟨_, rfl, z⟩
        | yes h hr =>
          refine wpAny_bind (h A.in1 _ pins σ s' H2 _ _ _ at_.in1 I2 (hs.trans hs2) q1 q3 fun s3 H3 I3 hs3 => ?_)
          wp_walk
          exact ⟨rfl, _, _, _, _, H3, hrest, q2, q4, hr, I3, hs2.trans hs3⟩
  case fin =>
    rintro ⟨b1, b2⟩ s' ⟨hb', xs', ys', us, ws, H2, hz, ru, rw, el, I2, hs2⟩
    simp only at hb'
    subst hb'
    have z := hR s' H2 I2 hs2
    have eb : b = true := by
      cases ru with
      | nil => cases el <;> rfl
      | cons q1 q2 =>
        cases rw with
        | nil => cases el <;> rfl
        | cons q3 q4 => simp at hz
    rw [eb, Bool.true_and, l1, l2] at z
    wp_walk
    exact ⟨_, rfl, by simpa [Builtin.Tuple.tupleCompareSizes] using z⟩
  case h => exact ⟨rfl, xs, ys, its, its2, H1, by simp, rx, ry, e, I, Same.refl _⟩
theorem RcU.tup (e : EqL X k H xs ys b) (hx : H a = some (.tup xs)) (hy : H c = some (.tup ys)) : RcU X (k + 1) H (.ref a) (.ref c) (b && xs.length == ys.length) := by
  intro A E pins σ s H1 u u' Q at_ I hs r1 r2 hq
  obtain rfl : u = Value.ref a := r1
  obtain rfl : u' = Value.ref c := r2
  obtain ⟨oa, its, na, h1, h2, h3, rx⟩ := tup_at I (hs _ _ hx)
  obtain ⟨oc, its2, nc, g1, g2, g3, ry⟩ := tup_at I (hs _ _ hy)
  have hT : s.TypeIs (.ref a) "tuple" := ⟨oa, h1, h2⟩
  have hT2 : s.TypeIs (.ref c) "tuple" := ⟨oc, g1, g2⟩
  refine wpAny_richCompare_same_room hT hT2 F.slot_tuple_eq ?_ (by have := at_.room.un; omega)
  refine wpAny_call (codeAny_call_builtin F.slot_tuple_eq.plain F.entry_tuple_eq (F.slot_tuple_eq.check _ _ _ _ _ _ _ _ hT (F.args_tuple_eq_2 _ _) ?_))
  refine wpAny_mono (tup_eq_run (R := wants (fun v s' => v ≠ .notImplemented ∧ Q v s') E) e hx hy at_ I hs fun s' H2 I2 hs2 => ⟨(fun x => nomatch x), hq s' H2 I2 hs2⟩) (fun fin s' h' => ?_) fun _ _ x => x
  obtain ⟨v, rfl, hv⟩ := h'
  exact hv
end
end K2

/-! == with an own __eq__ at the left, at the right. -/
namespace K2
open PySem PySem.Spec PyProof.Rows L2 K1
open SeqAt AutoSeq1 MeetsSeq MeetsSeq2 MeetsSeq3

/-! ### what built-in classes say of an instance: nothing -/
theorem int_declines_ins (b : Int) (u : Tok) (l : Addr) (C : Addr) (dx : Addr) : Meets (Builtin.«int.__eq__» ⟨[.int b u, .ref l], []⟩) (fun _ R s => s.heap.get? l = some (PySem.W.instObj C dx) ∧ R (.ok (.ret .notImplemented)) s) :=
  .of_wp fun prog w A R s h => by obtain ⟨hp, g, d, tk, os⟩ := s; obtain ⟨hl, h⟩ := h; wp_walk using wpAny_loadPart' hl, wpAny_load hl; exact ⟨_, rfl, h⟩
theorem bool_declines_ins (b : Bool) (l : Addr) (C : Addr) (dx : Addr) : Meets (Builtin.«int.__eq__» ⟨[.bool b, .ref l], []⟩) (fun _ R s => s.heap.get? l = some (PySem.W.instObj C dx) ∧ R (.ok (.ret .notImplemented)) s) :=
  .of_wp fun prog w A R s h => by obtain ⟨hp, g, d, tk, os⟩ := s; obtain ⟨hl, h⟩ := h; wp_walk using wpAny_loadPart' hl, wpAny_load hl; exact ⟨_, rfl, h⟩
theorem str_declines_ins (b : Str) (u : Tok) (l : Addr) (C : Addr) (dx : Addr) : Meets (Builtin.«str.__eq__» ⟨[.str b u, .ref l], []⟩) (fun _ R s => s.heap.get? l = some (PySem.W.instObj C dx) ∧ R (.ok (.ret .notImplemented)) s) :=
  .of_wp fun prog w A R s h => by obtain ⟨hp, g, d, tk, os⟩ := s; obtain ⟨hl, h⟩ := h; wp_walk using wpAny_loadPart' hl, wpAny_load hl; exact ⟨_, rfl, h⟩

section
open PySem.W PySem.Calls
variable {prog : Program} {w : World} {A : Around} {E : Value → Shared → Prop} {s : Shared} {K : Frag} {x C f : Addr} {ox : Obj} {od : Option Obj} {a : Value} {T ida : String}
theorem rc_ownR {Q : Value → Shared → Prop} (ha : s.TypeIs a T) (h1 : Slot T (Str.ofString "__eq__") ida) (X : K.In s.heap) (I : InstAt s.heap x ox C od) (hsub : subIn K (.ref C) (.type T) = some false)
    (hs : findIn K (.ref C) "__eq__" = some (some (.ref f))) (hf : isFn K (.ref f) = true) (hu : A.units < cLine)
    (hc1 : ∀ Q' : Value → Shared → Prop, Q' .notImplemented s → wpAny (model prog w) A (call (.builtin ida) [a, .ref x]) Q' E s)
    (h : wpAny (model prog w) A (call (.ref f) [.ref x, a]) (PySem.W.CmpBack Q) E s) : wpAny (model prog w) A (richCompare .Eq a (.ref x)) Q E s := by
  have one : wpAny (model prog w) A (tryCompare (.ref x) (cmpInfo .Eq).2.2 a) (fun r s' => ∃ v, r = some v ∧ Q v s') E s := by
    unfold tryCompare
    refine wpAny_bind (ifBound_K X I hs hf (wpAny_mono h (fun v s' hv => ?_) fun _ _ e => e))
    cases v <;> first | exact hv.elim | exact wpAny_pure ⟨_, rfl, hv⟩
  simp only [richCompare, ha.oneThing_none]
  try with_reducible refine wpAny_holding ?_
  refine wpAny_bind (wpAny_cRoomFor_or (.inr hu) ?_)
  refine wpAny_bind (wpAny_typeOf ha (wpAny_bind (I.type.here ?_)))
  have hne : (Value.type T != Value.ref C) = true := by
    show (!(Value.type T == Value.ref C)) = true
    have ne : (Value.type T == Value.ref C) = false := Bool.eq_false_iff.mpr fun q => by cases beq_iff_eq.mp q
    rw [ne]; rfl
  simp only [hne, if_true]
  refine wpAny_bind ((looks_subIn X hsub).here ?_)
  simp only [Bool.false_eq_true, if_false, Bool.not_false, if_true]
  refine wpAny_bind (m := tryCompare a _ (.ref x)) (wpAny_tryCompare_declines ha h1 (hc1 _ ⟨rfl, ?_⟩))
  refine wpAny_bind (wpAny_mono one (fun r s' z => ?_) fun _ _ e => e)
  obtain ⟨v, rfl, hq⟩ := z
  exact wpAny_pure hq
end

/-- an own == of a class, that tells its answer and changes nothing -/
structure EqOf (X : Cx) (C f : Addr) (fd : FuncData) (k : Nat) (sp : Sp) : Prop where
  fn : FnOk X.prog X.w X.K X.mg X.base CX0 k f fd ["self", "other"] sp
  bd : Binds X.K fd ["self", "other"] []
  at_ : OwnM X.K C "__eq__" f
section
variable {X : Cx} {C f a : Addr} {fd : FuncData} {k : Nat} {sp : Sp} {H : Hp} {b : Bool} {y : V}
/-- the own def's run, as an answer of a comparison -/
theorem own_run (R : EqOf X C f fd k sp) {A : Around} {E : Value → Shared → Prop} {pins : List (Addr × Obj)} {σ : L2.St} {s : Shared} {H1 : Hp} {u : Value} {Q : Value → Shared → Prop} (at_ : Af X k A) (I : Inv X pins σ H1 s) (ry : RelV y u)
    (p : sp [.ref a, y] H1 (fun v H2 => v = .bl b ∧ Same H1 H2) E0) (hq : ∀ s' H2, Inv X pins σ H2 s' → Same H1 H2 → Q (.bool b) s') : wpAny (model X.prog X.w) A (call (.ref f) [.ref a, u]) (PySem.W.CmpBack Q) E s := by
  refine thn (run_af (vs := [.ref a, y]) (us := [.ref a, u]) R.fn at_ R.bd I (.cons rfl (.cons ry .nil)) p) fun r s' hr => ?_
  obtain ⟨v, H2, I2, rv, rfl, hs2⟩ := hr
  obtain rfl : r = Value.bool b := rv
  exact hq s' H2 I2 hs2
theorem RcU.ownL (R : EqOf X C f fd k sp) {dx : Addr} {fs : List (Str × V)} {t : Value} (h : H a = some (.ins C dx fs)) (ty : ∀ H1, Same H H1 → TyOf X.K H1 y t) (hn : PySem.W.notFirst X.K C t = true)
    (p : ∀ H1, Same H H1 → sp [.ref a, y] H1 (fun v H2 => v = .bl b ∧ Same H1 H2) E0) : RcU X k H (.ref a) y b := by
  intro A E pins σ s H1 u u' Q at_ I hs r1 r2 hq
  obtain rfl : u = Value.ref a := r1
  obtain ⟨ox, od, J⟩ := own_inst I (hs _ _ h)
  obtain ⟨m, hF⟩ := I.fr
  exact PySem.W.cmp_K (op := .Eq) (by have := at_.room.un; omega) hF I.ok.mod.kin J (ty_look I r2 (ty H1 hs)) hn R.at_.at_ R.at_.fn (own_run R at_ I r2 (p H1 hs) hq)
/-- an int, a truth, a text, a tuple, None at the left -/
theorem RcU.ownR (R : EqOf X C f fd k sp) {dx : Addr} {fs : List (Str × V)} {T ida : String} (h : H a = some (.ins C dx fs)) (h1 : Slot T (Str.ofString "__eq__") ida) (hsub : PySem.W.subIn X.K (.ref C) (.type T) = some false)
    (hd : ∀ (A : Around) (E : Value → Shared → Prop) (pins : List (Addr × Obj)) (σ : L2.St) (s : Shared) (H1 : Hp) (u : Value), Inv X pins σ H1 s → Same H H1 → RelV y u → s.TypeIs u T ∧ ∀ Q' : Value → Shared → Prop, Q' .notImplemented s → wpAny (model X.prog X.w) A (call (.builtin ida) [u, .ref a]) Q' E s)
    (p : ∀ H1, Same H H1 → sp [.ref a, y] H1 (fun v H2 => v = .bl b ∧ Same H1 H2) E0) : RcU X k H y (.ref a) b := by
  intro A E pins σ s H1 u u' Q at_ I hs r1 r2 hq
  obtain rfl : u' = Value.ref a := r2
  obtain ⟨ox, od, J⟩ := own_inst I (hs _ _ h)
  obtain ⟨hT, hc⟩ := hd A E pins σ s H1 u I hs r1
  exact rc_ownR hT h1 I.kIn J hsub R.at_.at_ R.at_.fn (by have := at_.room.un; omega) hc (own_run R at_ I r1 (p H1 hs) hq)
theorem ins_obj {pins : List (Addr × Obj)} {σ : L2.St} {s : Shared} {H1 : Hp} {dx : Addr} {fs : List (Str × V)} (I : Inv X pins σ H1 s) (h : H1 a = some (.ins C dx fs)) : s.heap.get? a = some (PySem.W.instObj C dx) :=
  (show ObjOk X.prog X.w H1 s.heap a (.ins C dx fs) from I.hok a _ h).2.2.2.1
theorem RcU.int_own (R : EqOf X C f fd k sp) {n : Int} {dx : Addr} {fs : List (Str × V)} (h : H a = some (.ins C dx fs)) (hsub : PySem.W.subIn X.K (.ref C) (.type "int") = some false)
    (p : ∀ H1, Same H H1 → sp [.ref a, .int n] H1 (fun v H2 => v = .bl b ∧ Same H1 H2) E0) : RcU X k H (.int n) (.ref a) b :=
  .ownR R h F.slot_int_eq hsub (fun A E pins σ s H1 u I hs r => by
    obtain ⟨t, rfl⟩ := r
    exact ⟨typeIs_int s n t, fun Q' hq => call_meets F.slot_int_eq (typeIs_int s n t) F.entry_int_eq (F.args_int_eq_2 _ _) (int_declines_ins n t a C dx) ⟨ins_obj I (hs _ _ h), hq⟩⟩) p
theorem RcU.bl_own (R : EqOf X C f fd k sp) {n : Bool} {dx : Addr} {fs : List (Str × V)} (h : H a = some (.ins C dx fs)) (hsub : PySem.W.subIn X.K (.ref C) (.type "bool") = some false)
    (p : ∀ H1, Same H H1 → sp [.ref a, .bl n] H1 (fun v H2 => v = .bl b ∧ Same H1 H2) E0) : RcU X k H (.bl n) (.ref a) b :=
  .ownR R h F.slot_bool_eq hsub (fun A E pins σ s H1 u I hs r => by
    obtain rfl : u = Value.bool n := r
    exact ⟨rfl, fun Q' hq => call_meets F.slot_bool_eq rfl F.entry_int_eq (F.args_int_eq_2 _ _) (bool_declines_ins n a C dx) ⟨ins_obj I (hs _ _ h), hq⟩⟩) p
theorem RcU.str_own (R : EqOf X C f fd k sp) {n : Str} {dx : Addr} {fs : List (Str × V)} (h : H a = some (.ins C dx fs)) (hsub : PySem.W.subIn X.K (.ref C) (.type "str") = some false)
    (p : ∀ H1, Same H H1 → sp [.ref a, .str n] H1 (fun v H2 => v = .bl b ∧ Same H1 H2) E0) : RcU X k H (.str n) (.ref a) b :=
  .ownR R h F.slot_str_eq hsub (fun A E pins σ s H1 u I hs r => by
    obtain ⟨t, rfl⟩ := r
    exact ⟨typeIs_str s n t, fun Q' hq => call_meets F.slot_str_eq (typeIs_str s n t) F.entry_str_eq (F.args_str_eq_2 _ _) (str_declines_ins n t a C dx) ⟨ins_obj I (hs _ _ h), hq⟩⟩) p
theorem RcU.non_own (R : EqOf X C f fd k sp) {dx : Addr} {fs : List (Str × V)} (h : H a = some (.ins C dx fs)) (hsub : PySem.W.subIn X.K (.ref C) (.type "NoneType") = some false)
    (p : ∀ H1, Same H H1 → sp [.ref a, .non] H1 (fun v H2 => v = .bl b ∧ Same H1 H2) E0) : RcU X k H .non (.ref a) b :=
  .ownR R h F.slot_NoneType_eq hsub (fun A E pins σ s H1 u I hs r => by
    obtain rfl : u = Value.none := r
    exact ⟨rfl, fun Q' hq => call_gives F.slot_NoneType_eq rfl F.entry_NoneType_eq (F.args_NoneType_eq_2 _ _) (NoneType___eq___none_ref_0 a) hq⟩) p
theorem RcU.tup_own (R : EqOf X C f fd k sp) {c : Addr} {xs : List V} {dx : Addr} {fs : List (Str × V)} (h : H a = some (.ins C dx fs)) (hc : H c = some (.tup xs)) (hsub : PySem.W.subIn X.K (.ref C) (.type "tuple") = some false)
    (p : ∀ H1, Same H H1 → sp [.ref a, .ref c] H1 (fun v H2 => v = .bl b ∧ Same H1 H2) E0) : RcU X k H (.ref c) (.ref a) b :=
  .ownR R h F.slot_tuple_eq hsub (fun A E pins σ s H1 u I hs r => by
    obtain rfl : u = Value.ref c := r
    obtain ⟨oc, its, nc, g1, g2, g3, ry⟩ := tup_at I (hs _ _ hc)
    have hT : s.TypeIs (.ref c) "tuple" := ⟨oc, g1, g2⟩
    refine ⟨hT, fun Q' hq => ?_⟩
    obtain ⟨ox, od, J⟩ := own_inst I (hs _ _ h)
    refine wpAny_call (codeAny_call_builtin F.slot_tuple_eq.plain F.entry_tuple_eq (F.slot_tuple_eq.check _ _ _ _ _ _ _ _ hT (F.args_tuple_eq_2 _ _) ?_))
    refine wpAny_mono (Q := fun fin s' => ∃ v, fin = .done (.ret v) ∧ v = .notImplemented ∧ s' = s) ?_ (fun fin s' h' => ?_) fun _ _ x => x
    · obtain ⟨cls, dd, data, sl⟩ := oc
      simp only at g2 g3
      subst g2 g3
      have L := PySem.W.looks_subIn (M := model X.prog X.w) I.kIn hsub
      have gi := ins_obj I (hs _ _ h)
      obtain ⟨hp, g, d, tk, os⟩ := s
      wp_walk using wpAny_loadPart' g1, wpAny_loadPart' gi
      refine L.here ?_
      wp_walk
      exact ⟨_, rfl, rfl, rfl⟩
    · obtain ⟨v, rfl, rfl, rfl⟩ := h'
      exact hq) p
end
end K2

/-! Values as trees; where a tree stands. -/
namespace K2
open PySem PySem.Spec PyProof.Rows L2 K1

/-- a value, all the way in -/
inductive T where
  | non | bl (b : Bool) | int (n : Int) | str (s : Str) | rat (x y : Int)
  | lst (ts : List T) | tup (ts : List T) | dct (kvs : List (Key × T))
mutual
/-- how deep -/
def T.depth : T → Nat
  | .lst ts => depthL ts + 1
  | .tup ts => depthL ts + 1
  | .dct kvs => depthD kvs + 1
  | _ => 0
def depthL : List T → Nat
  | [] => 0
  | t :: ts => max t.depth (depthL ts)
def depthD : List (Key × T) → Nat
  | [] => 0
  | (_, t) :: ts => max t.depth (depthD ts)
end
theorem depthL_get : ∀ {ts : List T} {i : Nat} {t : T}, ts[i]? = some t → t.depth ≤ depthL ts
  | [], _, _, e => by simp at e
  | t :: ts, 0, _, e => by simp at e; subst e; rw [depthL]; exact Nat.le_max_left _ _
  | t :: ts, i + 1, u, e => by
    have := depthL_get (ts := ts) (i := i) (t := u) (by simpa using e)
    rw [depthL]
    exact Nat.le_trans this (Nat.le_max_right _ _)
theorem depthD_get : ∀ {ts : List (Key × T)} {i : Nat} {p : Key × T}, ts[i]? = some p → p.2.depth ≤ depthD ts
  | [], _, _, e => by simp at e
  | (k, t) :: ts, 0, _, e => by simp at e; subst e; rw [depthD]; exact Nat.le_max_left _ _
  | (k, t) :: ts, i + 1, u, e => by
    have := depthD_get (ts := ts) (i := i) (p := u) (by simpa using e)
    rw [depthD]
    exact Nat.le_trans this (Nat.le_max_right _ _)

/-- items and their trees; entries and theirs -/
abbrev AllI (R : V → T → Prop) (vs : List V) (ts : List T) : Prop := vs.length = ts.length ∧ ∀ (i : Nat) (v : V) (t : T), vs[i]? = some v → ts[i]? = some t → R v t
abbrev AllE (R : V → T → Prop) (ws : List (Key × V)) (kvs : List (Key × T)) : Prop := ws.map (·.1) = kvs.map (·.1) ∧ ∀ (i : Nat) (p : Key × V) (q : Key × T), ws[i]? = some p → kvs[i]? = some q → R p.2 q.2
/-- v stands for the tree t, no deeper than d -/
def Tr (C : Addr) (H : Hp) : Nat → V → T → Prop
  | _, v, .non => v = .non
  | _, v, .bl b => v = .bl b
  | _, v, .int n => v = .int n
  | _, v, .str s => v = .str s
  | _, v, .rat x y => ∃ a, v = .ref a ∧ RatAt C H a x y
  | 0, _, .lst _ => False
  | 0, _, .tup _ => False
  | 0, _, .dct _ => False
  | d + 1, v, .lst ts => ∃ a vs, v = .ref a ∧ H a = some (.lst vs) ∧ AllI (Tr C H d) vs ts
  | d + 1, v, .tup ts => ∃ a vs, v = .ref a ∧ H a = some (.tup vs) ∧ AllI (Tr C H d) vs ts
  | d + 1, v, .dct kvs => ∃ a ws, v = .ref a ∧ H a = some (.dK ws) ∧ AllE (Tr C H d) ws kvs
section
variable {C : Addr} {H H' : Hp}
theorem AllI.mono {R R' : V → T → Prop} {vs : List V} {ts : List T} (h : AllI R vs ts) (f : ∀ v t, v ∈ vs → t ∈ ts → R v t → R' v t) : AllI R' vs ts :=
  ⟨h.1, fun i v t e1 e2 => f v t (List.mem_of_getElem? e1) (List.mem_of_getElem? e2) (h.2 i v t e1 e2)⟩
theorem AllE.mono {R R' : V → T → Prop} {vs : List (Key × V)} {ts : List (Key × T)} (h : AllE R vs ts) (f : ∀ v t, v ∈ vs → t ∈ ts → R v.2 t.2 → R' v.2 t.2) : AllE R' vs ts :=
  ⟨h.1, fun i v t e1 e2 => f v t (List.mem_of_getElem? e1) (List.mem_of_getElem? e2) (h.2 i v t e1 e2)⟩
theorem AllE.len {R : V → T → Prop} {vs : List (Key × V)} {ts : List (Key × T)} (h : AllE R vs ts) : vs.length = ts.length := by
  have := congrArg List.length h.1
  simpa using this
theorem Tr.same : ∀ {d : Nat} {v : V} {t : T}, Same H H' → Tr C H d v t → Tr C H' d v t := by
  intro d
  induction d with
  | zero =>
    intro v t s h
    cases t with
    | rat x y => obtain ⟨a, e, r⟩ := h; exact ⟨a, e, r.same s⟩
    | lst ts => exact h.elim
    | tup ts => exact h.elim
    | dct ts => exact h.elim
    | _ => exact h
  | succ d ih =>
    intro v t s h
    cases t with
    | rat x y => obtain ⟨a, e, r⟩ := h; exact ⟨a, e, r.same s⟩
    | lst ts => obtain ⟨a, vs, e, g, r⟩ := h; exact ⟨a, vs, e, s _ _ g, r.mono fun _ _ _ _ z => ih s z⟩
    | tup ts => obtain ⟨a, vs, e, g, r⟩ := h; exact ⟨a, vs, e, s _ _ g, r.mono fun _ _ _ _ z => ih s z⟩
    | dct ts => obtain ⟨a, vs, e, g, r⟩ := h; exact ⟨a, vs, e, s _ _ g, r.mono fun _ _ _ _ z => ih s z⟩
    | _ => exact h
theorem Tr.mono : ∀ {d d' : Nat} {v : V} {t : T}, d ≤ d' → Tr C H d v t → Tr C H d' v t := by
  intro d
  induction d with
  | zero =>
    intro d' v t _ h
    cases t with
    | lst ts => exact h.elim
    | tup ts => exact h.elim
    | dct ts => exact h.elim
    | _ => cases d' <;> exact h
  | succ d ih =>
    intro d' v t l h
    obtain ⟨e, rfl⟩ : ∃ e, d' = e + 1 := ⟨d' - 1, by omega⟩
    cases t with
    | lst ts => obtain ⟨a, vs, e, g, r⟩ := h; exact ⟨a, vs, e, g, r.mono fun _ _ _ _ z => ih (by omega) z⟩
    | tup ts => obtain ⟨a, vs, e, g, r⟩ := h; exact ⟨a, vs, e, g, r.mono fun _ _ _ _ z => ih (by omega) z⟩
    | dct ts => obtain ⟨a, vs, e, g, r⟩ := h; exact ⟨a, vs, e, g, r.mono fun _ _ _ _ z => ih (by omega) z⟩
    | _ => exact h
theorem depthL_le : ∀ {ts : List T} {d : Nat}, (∀ t ∈ ts, t.depth ≤ d) → depthL ts ≤ d
  | [], d, _ => by rw [depthL]; omega
  | t :: ts, d, h => by
    rw [depthL]
    exact Nat.max_le.mpr ⟨h t (.head _), depthL_le fun u hu => h u (.tail _ hu)⟩
theorem depthD_le : ∀ {ts : List (Key × T)} {d : Nat}, (∀ t ∈ ts, t.2.depth ≤ d) → depthD ts ≤ d
  | [], d, _ => by rw [depthD]; omega
  | (k, t) :: ts, d, h => by
    rw [depthD]
    exact Nat.max_le.mpr ⟨h (k, t) (.head _), depthD_le fun u hu => h u (.tail _ hu)⟩
theorem AllI.at_ {R : V → T → Prop} {vs : List V} {ts : List T} (h : AllI R vs ts) {i : Nat} {t : T} (e : ts[i]? = some t) : ∃ v, vs[i]? = some v ∧ R v t := by
  have hi := (List.getElem?_eq_some_iff.mp e).1
  exact ⟨vs[i]'(by rw [h.1]; exact hi), List.getElem?_eq_getElem _, h.2 i _ t (List.getElem?_eq_getElem _) e⟩
theorem AllI.to {R : V → T → Prop} {vs : List V} {ts : List T} (h : AllI R vs ts) {i : Nat} {v : V} (e : vs[i]? = some v) : ∃ t, ts[i]? = some t ∧ R v t := by
  have hi := (List.getElem?_eq_some_iff.mp e).1
  exact ⟨ts[i]'(by rw [← h.1]; exact hi), List.getElem?_eq_getElem _, h.2 i v _ e (List.getElem?_eq_getElem _)⟩
theorem AllE.at_ {R : V → T → Prop} {vs : List (Key × V)} {ts : List (Key × T)} (h : AllE R vs ts) {i : Nat} {q : Key × T} (e : ts[i]? = some q) : ∃ v, vs[i]? = some (q.1, v) ∧ R v q.2 := by
  have hi := (List.getElem?_eq_some_iff.mp e).1
  have h1 : vs[i]? = some (vs[i]'(by rw [h.len]; exact hi)) := List.getElem?_eq_getElem _
  have e2 := congrArg (·[i]?) h.1
  simp only [List.getElem?_map, e, h1, Option.map_some, Option.some.injEq] at e2
  exact ⟨(vs[i]'(by rw [h.len]; exact hi)).2, by rw [h1, ← e2], h.2 i _ q h1 e⟩
theorem AllE.to {R : V → T → Prop} {vs : List (Key × V)} {ts : List (Key × T)} (h : AllE R vs ts) {i : Nat} {p : Key × V} (e : vs[i]? = some p) : ∃ t, ts[i]? = some (p.1, t) ∧ R p.2 t := by
  have hi := (List.getElem?_eq_some_iff.mp e).1
  have h1 : ts[i]? = some (ts[i]'(by rw [← h.len]; exact hi)) := List.getElem?_eq_getElem _
  have e2 := congrArg (·[i]?) h.1
  simp only [List.getElem?_map, e, h1, Option.map_some, Option.some.injEq] at e2
  exact ⟨(ts[i]'(by rw [← h.len]; exact hi)).2, by rw [h1, e2], h.2 i p _ e h1⟩
theorem Tr.depth_le : ∀ {d : Nat} {v : V} {t : T}, Tr C H d v t → t.depth ≤ d := by
  intro d
  induction d with
  | zero =>
    intro v t h
    cases t with
    | lst ts => exact h.elim
    | tup ts => exact h.elim
    | dct ts => exact h.elim
    | _ => simp [T.depth]
  | succ d ih =>
    intro v t h
    cases t with
    | lst ts =>
      obtain ⟨a, vs, e, g, r⟩ := h
      rw [T.depth]
      refine Nat.succ_le_succ (depthL_le fun t ht => ?_)
      obtain ⟨i, hi⟩ := List.getElem?_of_mem ht
      obtain ⟨v, _, z⟩ := r.at_ hi
      exact ih z
    | tup ts =>
      obtain ⟨a, vs, e, g, r⟩ := h
      rw [T.depth]
      refine Nat.succ_le_succ (depthL_le fun t ht => ?_)
      obtain ⟨i, hi⟩ := List.getElem?_of_mem ht
      obtain ⟨v, _, z⟩ := r.at_ hi
      exact ih z
    | dct ts =>
      obtain ⟨a, vs, e, g, r⟩ := h
      rw [T.depth]
      refine Nat.succ_le_succ (depthD_le fun t ht => ?_)
      obtain ⟨i, hi⟩ := List.getElem?_of_mem ht
      obtain ⟨v, _, z⟩ := r.at_ hi
      exact ih z
    | _ => simp [T.depth]
/-- no less deep than the tree -/
theorem Tr.tight : ∀ {d d' : Nat} {v : V} {t : T}, Tr C H d v t → t.depth ≤ d' → Tr C H d' v t := by
  intro d
  induction d with
  | zero =>
    intro d' v t h l
    exact h.mono (Nat.zero_le _)
  | succ d ih =>
    intro d' v t h l
    cases t with
    | lst ts =>
      obtain ⟨a, vs, e, g, r⟩ := h
      rw [T.depth] at l
      obtain ⟨d'', rfl⟩ : ∃ d'', d' = d'' + 1 := ⟨d' - 1, by omega⟩
      exact ⟨a, vs, e, g, r.1, fun i v t e1 e2 => ih (r.2 i v t e1 e2) (Nat.le_trans (depthL_get e2) (by omega))⟩
    | tup ts =>
      obtain ⟨a, vs, e, g, r⟩ := h
      rw [T.depth] at l
      obtain ⟨d'', rfl⟩ : ∃ d'', d' = d'' + 1 := ⟨d' - 1, by omega⟩
      exact ⟨a, vs, e, g, r.1, fun i v t e1 e2 => ih (r.2 i v t e1 e2) (Nat.le_trans (depthL_get e2) (by omega))⟩
    | dct ts =>
      obtain ⟨a, vs, e, g, r⟩ := h
      rw [T.depth] at l
      obtain ⟨d'', rfl⟩ : ∃ d'', d' = d'' + 1 := ⟨d' - 1, by omega⟩
      exact ⟨a, vs, e, g, r.1, fun i v t e1 e2 => ih (r.2 i v t e1 e2) (Nat.le_trans (depthD_get e2) (by omega))⟩
    | _ => cases d' <;> exact h
theorem fsR_inj {x y x' y' : Int} (h : fsR x y = fsR x' y') : x = x' ∧ y = y' := by
  have a := fsR_top x y
  have b := fsR_bottom x y
  rw [h, fsR_top] at a
  rw [h, fsR_bottom] at b
  injection a with a; injection a with a
  injection b with b; injection b with b
  exact ⟨a.symm, b.symm⟩
/-- what v and the heap tell of the tree -/
def Inv1 (C : Addr) (H : Hp) (d : Nat) (v : V) : T → Prop
  | .non => v = .non
  | .bl b => v = .bl b
  | .int n => v = .int n
  | .str s => v = .str s
  | .rat x y => ∃ a dx, v = .ref a ∧ H a = some (.ins C dx (fsR x y))
  | .lst ts => ∃ a vs, v = .ref a ∧ H a = some (.lst vs) ∧ ∃ e, d = e + 1 ∧ AllI (Tr C H e) vs ts
  | .tup ts => ∃ a vs, v = .ref a ∧ H a = some (.tup vs) ∧ ∃ e, d = e + 1 ∧ AllI (Tr C H e) vs ts
  | .dct ts => ∃ a vs, v = .ref a ∧ H a = some (.dK vs) ∧ ∃ e, d = e + 1 ∧ AllE (Tr C H e) vs ts
theorem Tr.inv : ∀ {d : Nat} {v : V} {t : T}, Tr C H d v t → Inv1 C H d v t
  | 0, v, .non, h | 0, v, .bl _, h | 0, v, .int _, h | 0, v, .str _, h => h
  | d + 1, v, .non, h | d + 1, v, .bl _, h | d + 1, v, .int _, h | d + 1, v, .str _, h => h
  | 0, v, .rat x y, h | d + 1, v, .rat x y, h => let ⟨a, e, dx, g⟩ := h; ⟨a, dx, e, g⟩
  | 0, v, .lst ts, h | 0, v, .tup ts, h | 0, v, .dct ts, h => h.elim
  | d + 1, v, .lst ts, h | d + 1, v, .tup ts, h | d + 1, v, .dct ts, h => let ⟨a, vs, e, g, r⟩ := h; ⟨a, vs, e, g, d, rfl, r⟩
theorem ext_list {α : Type} {xs ys : List α} (l : xs.length = ys.length) (h : ∀ (i : Nat) (x y : α), xs[i]? = some x → ys[i]? = some y → x = y) : xs = ys := by
  refine List.ext_getElem? fun i => ?_
  by_cases hi : i < xs.length
  · rw [List.getElem?_eq_getElem hi, List.getElem?_eq_getElem (l ▸ hi)]
    exact congrArg some (h i _ _ (List.getElem?_eq_getElem hi) (List.getElem?_eq_getElem (l ▸ hi)))
  · rw [List.getElem?_eq_none (by omega), List.getElem?_eq_none (by omega)]
/-- what stands at an address tells the tree -/
theorem Tr.det : ∀ {d d' : Nat} {v : V} {t t' : T}, Tr C H d v t → Tr C H d' v t' → t = t' := by
  intro d
  induction d using Nat.strongRecOn with
  | _ d ih =>
    intro d' v t t' h h'
    have i := h.inv
    have i' := h'.inv
    clear h h'
    cases t <;> cases t' <;> dsimp only [Inv1] at i i' <;> first
      | (with_reducible rfl)
      | (rw [i] at i'; cases i'; rfl)
      | (rw [i] at i'; cases i'; done)
      | (obtain ⟨a, _, e, _⟩ := i'; rw [i] at e; cases e; done)
      | (obtain ⟨a, _, e, _⟩ := i; rw [i'] at e; cases e; done)
      | (obtain ⟨a, _, e, g⟩ := i; obtain ⟨a', _, e', g'⟩ := i'; rw [e] at e'; cases e'; rw [g] at g'; injection g' with g'; injection g' with _ _ g'; obtain ⟨r1, r2⟩ := fsR_inj g'; rw [r1, r2]; done)
      | (obtain ⟨a, _, e, g, x, rfl, r⟩ := i; obtain ⟨a', _, e', g', y, rfl, r'⟩ := i'; rw [e] at e'; cases e'; rw [g] at g'; injection g' with g'; injection g' with g'; subst g'
         refine congrArg _ (ext_list (r.1.symm.trans r'.1) fun j u w e1 e2 => ?_)
         obtain ⟨z, hz, q⟩ := r.at_ e1
         exact ih x (by omega) q (r'.2 j z w hz e2))
      | (obtain ⟨a, _, e, g, x, rfl, r⟩ := i; obtain ⟨a', _, e', g', y, rfl, r'⟩ := i'; rw [e] at e'; cases e'; rw [g] at g'; injection g' with g'; injection g' with g'; subst g'
         refine congrArg _ (ext_list (r.len.symm.trans r'.len) fun j u w e1 e2 => ?_)
         obtain ⟨z, hz, q⟩ := r.at_ e1
         obtain ⟨z', hz', q'⟩ := r'.at_ e2
         rw [hz] at hz'
         injection hz' with hz'; injection hz' with k1 k2; subst k2
         exact Prod.ext k1 (ih x (by omega) q q'))
      | (obtain ⟨a, _, e, g⟩ := i; obtain ⟨a', _, e', g', _⟩ := i'; rw [e] at e'; cases e'; rw [g] at g'; cases g'; done)
      | (obtain ⟨a, _, e, g, _⟩ := i; obtain ⟨a', _, e', g'⟩ := i'; rw [e] at e'; cases e'; rw [g] at g'; cases g'; done)
      | (obtain ⟨a, _, e, g, _⟩ := i; obtain ⟨a', _, e', g', _⟩ := i'; rw [e] at e'; cases e'; rw [g] at g'; cases g'; done)
/-- a tree that is less deep than what stands at p stands without it -/
theorem Tr.hid {p : Addr} : ∀ {d : Nat} {v : V} {t : T}, Tr C H d v t → (∀ d' t', Tr C H d' (.ref p) t' → t.depth < t'.depth) → Tr C (hide p H) d v t := by
  intro d
  induction d with
  | zero =>
    intro v t h hp
    cases t with
    | rat x y =>
      obtain ⟨a, e, dx, g⟩ := id h
      refine ⟨a, e, dx, ?_⟩
      rw [hide_ne]
      · exact g
      · intro z
        subst z e
        exact Nat.lt_irrefl _ (hp _ _ h)
    | lst ts => exact h.elim
    | tup ts => exact h.elim
    | dct ts => exact h.elim
    | _ => exact h
  | succ d ih =>
    intro v t h hp
    cases t with
    | rat x y =>
      obtain ⟨a, e, dx, g⟩ := id h
      refine ⟨a, e, dx, ?_⟩
      rw [hide_ne]
      · exact g
      · intro z
        subst z e
        exact Nat.lt_irrefl _ (hp _ _ h)
    | lst ts =>
      obtain ⟨a, vs, e, g, r⟩ := id h
      refine ⟨a, vs, e, ?_, r.1, fun i v t e1 e2 => ih (r.2 i v t e1 e2) fun d' t' z => ?_⟩
      · rw [hide_ne]
        · exact g
        · intro z
          subst z e
          exact Nat.lt_irrefl _ (hp _ _ h)
      · have := hp d' t' z
        rw [T.depth] at this
        have := depthL_get e2
        omega
    | tup ts =>
      obtain ⟨a, vs, e, g, r⟩ := id h
      refine ⟨a, vs, e, ?_, r.1, fun i v t e1 e2 => ih (r.2 i v t e1 e2) fun d' t' z => ?_⟩
      · rw [hide_ne]
        · exact g
        · intro z
          subst z e
          exact Nat.lt_irrefl _ (hp _ _ h)
      · have := hp d' t' z
        rw [T.depth] at this
        have := depthL_get e2
        omega
    | dct ts =>
      obtain ⟨a, vs, e, g, r⟩ := id h
      refine ⟨a, vs, e, ?_, r.1, fun i v t e1 e2 => ih (r.2 i v t e1 e2) fun d' t' z => ?_⟩
      · rw [hide_ne]
        · exact g
        · intro z
          subst z e
          exact Nat.lt_irrefl _ (hp _ _ h)
      · have := hp d' t' z
        rw [T.depth] at this
        have := depthD_get e2
        omega
    | _ => exact h
end
end K2

/-! The text of a tree; repr of a small tree. -/
namespace K2
open PySem PySem.Spec PyProof.Rows L2 K1

def keyText : Key → Str
  | .inl i => Str.ofString (toString i)
  | .inr s => reprText s
/-- the keys that a dict may have -/
def cuts {α : Type} (f : List α) : List (List α) := [f, f.drop 1, f.drop 2, f.reverse, (f.drop 1).reverse, (f.drop 2).reverse]
def famS : List (List Str) := cuts (α := Str) ["b", "a", "c"] ++ cuts (α := Str) ["z9", "z10", "a"]
def famI : List (List Int) := cuts (α := Int) [10, 9, -1] ++ cuts (α := Int) [2, 100, 11]
def KeysOk (ks : List Key) : Prop := (∃ zs ∈ famS, ks = zs.map Sum.inr) ∨ ∃ zs ∈ famI, ks = zs.map Sum.inl
/-- a small tree -/
def Sml : Nat → T → Prop
  | _, .non => True
  | _, .bl _ => True
  | _, .int n => Sm 200 n
  | _, .str s => (reprText s).length ≤ 100
  | _, .rat x y => Sm 100 x ∧ Sm 100 y ∧ 0 < y
  | 0, .lst _ => False
  | 0, .tup _ => False
  | 0, .dct _ => False
  | d + 1, .lst ts => ts.length ≤ 4 ∧ ∀ t ∈ ts, Sml d t
  | d + 1, .tup ts => ts.length ≤ 4 ∧ ∀ t ∈ ts, Sml d t
  | d + 1, .dct kvs => KeysOk (kvs.map (·.1)) ∧ ∀ p ∈ kvs, Sml d p.2
theorem Sml.mono : ∀ {d d' : Nat} {t : T}, d ≤ d' → Sml d t → Sml d' t := by
  intro d
  induction d with
  | zero => intro d' t _ h; cases t <;> first | exact h.elim | (cases d' <;> exact h)
  | succ d ih =>
    intro d' t l h
    obtain ⟨e, rfl⟩ : ∃ e, d' = e + 1 := ⟨d' - 1, by omega⟩
    cases t with
    | lst ts => exact ⟨h.1, fun t ht => ih (by omega) (h.2 t ht)⟩
    | tup ts => exact ⟨h.1, fun t ht => ih (by omega) (h.2 t ht)⟩
    | dct ts => exact ⟨h.1, fun t ht => ih (by omega) (h.2 t ht)⟩
    | _ => exact h
theorem famS_len : ∀ f ∈ famS, f.length ≤ 3 ∧ 1 ≤ f.length := by decide +kernel
theorem famI_len : ∀ f ∈ famI, f.length ≤ 3 ∧ 1 ≤ f.length := by decide +kernel
theorem KeysOk.len {ks : List Key} (h : KeysOk ks) : ks.length ≤ 3 ∧ 1 ≤ ks.length := by
  rcases h with ⟨zs, hz, rfl⟩ | ⟨zs, hz, rfl⟩
  · rw [List.length_map]; exact famS_len zs hz
  · rw [List.length_map]; exact famI_len zs hz
def keyOkB (k : Key) : Bool := match k with
  | .inl i => decide (i.natAbs < 1000)
  | .inr s => decide ((reprText s).length ≤ 20)
theorem famS_keys : famS.all (fun f => f.all fun x => keyOkB (.inr x)) = true := by decide +kernel
theorem famI_keys : famI.all (fun f => f.all fun x => keyOkB (.inl x)) = true := by decide +kernel
theorem KeysOk.key {ks : List Key} (h : KeysOk ks) {k : Key} (hk : k ∈ ks) : keyOkB k = true := by
  rcases h with ⟨zs, hz, rfl⟩ | ⟨zs, hz, rfl⟩
  · obtain ⟨x, hx, rfl⟩ := List.mem_map.mp hk
    exact List.all_eq_true.mp (List.all_eq_true.mp famS_keys zs hz) x hx
  · obtain ⟨x, hx, rfl⟩ := List.mem_map.mp hk
    exact List.all_eq_true.mp (List.all_eq_true.mp famI_keys zs hz) x hx
theorem keyText_len {k : Key} (h : keyOkB k = true) : (keyText k).length ≤ 2000 := by
  cases k with
  | inl i =>
    have h : decide (i.natAbs < 1000) = true := h
    have h := of_decide_eq_true h
    have := PyProof.Rows.int_text_len_1921 (Nat.lt_trans (PySem.Flt.log2_lt_of (show 0 < 10 by decide) (show i.natAbs < 2 ^ 10 by omega)) (by decide : 10 < 1920))
    show (Str.ofString (toString i)).length ≤ 2000
    omega
  | inr s =>
    have h : decide ((reprText s).length ≤ 20) = true := h
    have h := of_decide_eq_true h
    show (reprText s).length ≤ 2000
    omega

/-! how long -/
def bnd : Nat → Nat
  | 0 => 4000
  | d + 1 => 4 * (bnd d + 2100)
theorem bnd_mono : ∀ {d d' : Nat}, d ≤ d' → bnd d ≤ bnd d' := by
  intro d d' h
  induction h with
  | refl => exact Nat.le_refl _
  | step _ ih => rw [bnd]; omega
theorem bnd_ge (d : Nat) : 4000 ≤ bnd d := bnd_mono (d := 0) (Nat.zero_le d)
theorem sum_le {ts : List Str} {b : Nat} (h : ∀ t ∈ ts, t.length ≤ b) : (ts.map (·.length)).sum ≤ ts.length * b := by
  induction ts with
  | nil => simp
  | cons t ts ih =>
    rw [List.map_cons, List.sum_cons, List.length_cons, Nat.succ_mul]
    have := h t (.head _)
    have := ih fun u hu => h u (.tail _ hu)
    omega
theorem many_le {ts : List Str} {b : Nat} (h : ∀ t ∈ ts, t.length ≤ b) (l : ts.length ≤ 4) : (ts.map (·.length)).sum + 2 * ts.length + 3 ≤ 4 * b + 11 := by
  have a := sum_le h
  have c : ts.length * b ≤ 4 * b := Nat.mul_le_mul_right b l
  omega
theorem atom_int {n : Int} (h : Sm 200 n) : (Str.ofString (toString n)).length ≤ 4000 := by
  have := PyProof.Rows.int_text_len_1921 (Nat.lt_trans (h.log (by decide)) (by decide : 200 < 1920))
  omega
/-! ### shown -/
theorem Tr.tgt {C : Addr} {H : Hp} {d : Nat} {v : V} {t : T} (h : Tr C H d v t) : Tr C H t.depth v t := h.tight (Nat.le_refl _)
/-- what the texts of the own instances are -/
def RpP (C : Addr) : Hp → Addr → Str → Prop := fun H a t => ∃ x y, RatAt C H a x y ∧ Sm 1900 x ∧ Sm 1900 y ∧ t = ratText x y
/-- the addresses of trees less deep than n -/
def Und (C : Addr) (H : Hp) (n : Nat) : Addr → Prop := fun b => ∃ d t, Tr C H d (.ref b) t ∧ t.depth < n
theorem Und.mono {C : Addr} {H : Hp} {n m : Nat} (h : n ≤ m) (b : Addr) (u : Und C H n b) : Und C H m b := let ⟨d, t, r, l⟩ := u; ⟨d, t, r, Nat.lt_of_lt_of_le l h⟩
theorem Und.self {C : Addr} {H : Hp} {d : Nat} {a : Addr} {t : T} (r : Tr C H d (.ref a) t) : ¬ Und C H t.depth a := fun ⟨_, _, r', l⟩ => by
  rw [r.det r'] at l
  exact Nat.lt_irrefl _ l
theorem Und.up {C : Addr} {H : Hp} {d : Nat} {a : Addr} {t : T} {n : Nat} (r : Tr C H d (.ref a) t) (h : t.depth < n) (b : Addr) (u : b = a ∨ Und C H t.depth b) : Und C H n b := by
  rcases u with rfl | u
  · exact ⟨d, t, r, h⟩
  · exact u.mono (by omega)
theorem RpU.nilL {X : Cx} {G0 : List Code} {H : Hp} {a : Addr} (ha : H a = some (.lst [])) : RpU X G0 0 (fun _ => False) H (.ref a) "[]" := by
  intro base A E pins σ s H1 u Q hb at_ I hs rv hq
  obtain rfl : u = Value.ref a := rv
  obtain ⟨its, na, h1, rv⟩ := lst_at I (hs _ _ ha)
  cases rv
  have hT : s.TypeIs (.ref a) "list" := ⟨_, h1, rfl⟩
  exact wpAny_pyReprUnder_ref (by omega) (wpAny_pyReprObjUnder_list_empty hT (by have := at_.room.un; omega) h1 rfl ⟨_, _, rfl, hq _ H1 (I.tok _) (Same.refl _)⟩)
theorem keyIs_text {k : Key} {u : Value} {P : Program} {w : World} (hk : keyOkB k = true) (h : keyIs k u = true) : ReprIs P w u (keyText k) := by
  rcases keyIs_shape h with ⟨i, t, rfl, rfl⟩ | ⟨x, t, rfl, rfl⟩
  · exact ReprIs.int t (Nat.lt_trans (PySem.Flt.log2_lt_of (show 0 < 10 by decide) (show i.natAbs < 2 ^ 10 by
      have : decide (i.natAbs < 1000) = true := hk
      have := of_decide_eq_true this
      omega)) (by decide : 10 < 1920))
  · have : decide ((reprText x).length ≤ 20) = true := hk
    have := of_decide_eq_true this
    exact ReprIs.str x t (Nat.le_trans this (by decide +kernel))
/-- v is shown by some short text -/
def Shown (X : Cx) (G0 : List Code) (k : Nat) (S : Addr → Prop) (H : Hp) (v : V) (b : Nat) : Prop := ∃ t : Str, t.length ≤ b ∧ RpU X G0 k S H v t
section
variable {X : Cx} {G0 : List Code} {C f : Addr} {fd : FuncData} {k : Nat}
theorem pick_all {α β : Type} {n : Nat} {P : Nat → β → Prop} (h : ∀ i, i < n → ∃ t, P i t) : ∃ ts : List β, ts.length = n ∧ ∀ i t, ts[i]? = some t → P i t := by
  induction n with
  | zero => exact ⟨[], rfl, fun i t e => by simp at e⟩
  | succ n ih =>
    obtain ⟨ts, l, q⟩ := ih fun i hi => h i (by omega)
    obtain ⟨t, p⟩ := h n (by omega)
    refine ⟨ts ++ [t], by rw [List.length_append, l]; rfl, fun i u e => ?_⟩
    rcases Nat.lt_or_ge i ts.length with z | z
    · rw [List.getElem?_append_left z] at e
      exact q i u e
    · rw [List.getElem?_append_right z] at e
      have z2 : i - ts.length = 0 := by
        rcases Nat.eq_zero_or_pos (i - ts.length) with y | y
        · exact y
        · rw [List.getElem?_eq_none (by simp; omega)] at e; cases e
      rw [z2] at e
      obtain rfl : t = u := by simpa using e
      rw [show i = n by omega]
      exact p
theorem all_shown {S : Addr → Prop} {H : Hp} {xs : List V} {b : Nat} (h : ∀ (i : Nat) (x : V), xs[i]? = some x → Shown X G0 k S H x b) : ∃ ts, RpAll X G0 k S H xs ts ∧ ∀ t ∈ ts, t.length ≤ b := by
  obtain ⟨ts, l, q⟩ := pick_all (α := V) (n := xs.length) (P := fun i (t : Str) => ∀ x, xs[i]? = some x → t.length ≤ b ∧ RpU X G0 k S H x t) fun i hi => by
    obtain ⟨t, h1, h2⟩ := h i _ (List.getElem?_eq_getElem hi)
    exact ⟨t, fun x e => by rw [List.getElem?_eq_getElem hi] at e; injection e with e; subst e; exact ⟨h1, h2⟩⟩
  refine ⟨ts, ⟨l, fun i x e => ?_⟩, fun t ht => ?_⟩
  · have hi := (List.getElem?_eq_some_iff.mp e).1
    have e2 : ts[i]? = some (ts[i]'(by omega)) := List.getElem?_eq_getElem _
    exact ⟨_, e2, (q i _ e2 x e).2⟩
  · obtain ⟨i, hi⟩ := List.getElem?_of_mem ht
    have := (List.getElem?_eq_some_iff.mp hi).1
    exact (q i t hi _ (List.getElem?_eq_getElem (show i < xs.length by omega))).1
theorem ent_shown {S : Addr → Prop} {H : Hp} {ws : List (Key × V)} {b : Nat} (hk : ∀ p ∈ ws, keyOkB p.1 = true) (h : ∀ (i : Nat) (p : Key × V), ws[i]? = some p → Shown X G0 k S H p.2 b) : ∃ ps, RpEnt X G0 k S H ws ps ∧ ∀ t ∈ ps, t.length ≤ b + 2002 := by
  obtain ⟨ts, l, q⟩ := pick_all (α := V) (n := ws.length) (P := fun i (t : Str) => ∀ p, ws[i]? = some p → ∃ tv : Str, t = keyText p.1 ++ ": " ++ tv ∧ tv.length ≤ b ∧ RpU X G0 k S H p.2 tv) fun i hi => by
    obtain ⟨t, h1, h2⟩ := h i _ (List.getElem?_eq_getElem hi)
    exact ⟨_, fun x e => by rw [List.getElem?_eq_getElem hi] at e; injection e with e; subst e; exact ⟨t, rfl, h1, h2⟩⟩
  refine ⟨ts, ⟨l, fun i p e => ?_⟩, fun t ht => ?_⟩
  · have hi := (List.getElem?_eq_some_iff.mp e).1
    have e2 : ts[i]? = some (ts[i]'(by omega)) := List.getElem?_eq_getElem _
    obtain ⟨tv, e3, _, r⟩ := q i _ e2 p e
    exact ⟨_, tv, by rw [e2, e3], fun u hu => keyIs_text (hk p (List.mem_of_getElem? e)) hu, r⟩
  · obtain ⟨i, hi⟩ := List.getElem?_of_mem ht
    have hl := (List.getElem?_eq_some_iff.mp hi).1
    have hw : i < ws.length := by omega
    obtain ⟨tv, e3, l3, r⟩ := q i t hi _ (List.getElem?_eq_getElem hw)
    have := keyText_len (hk _ (List.getElem_mem hw))
    rw [e3, strLen_append, strLen_append]
    have : ((": " : String) : Str).length = 2 := by decide +kernel
    omega
theorem Tr.atomU {H : Hp} {d : Nat} {v : V} {t : T} (R : ReprOf X C f fd k (RpP C)) (h : Tr C H d v t) (z : Sml d t) (n1 : ∀ ts, t ≠ .lst ts) (n2 : ∀ ts, t ≠ .tup ts) (n3 : ∀ ts, t ≠ .dct ts) :
    (∃ x : Str, x.length ≤ 4000 ∧ RpU X G0 k (fun _ => False) H v x) ∧ ∃ x : Str, x.length ≤ 4000 ∧ RpT X G0 (k + 1) H v x := by
  have i := h.inv
  cases t with
  | non => obtain rfl : v = .non := i; exact ⟨⟨_, by decide +kernel, RpU.none.more (Nat.zero_le _) fun _ z => z⟩, _, by decide +kernel, RpT.none.more (Nat.zero_le _)⟩
  | bl b => obtain rfl : v = .bl b := i; exact ⟨⟨_, by cases b <;> decide +kernel, RpU.bool.more (Nat.zero_le _) fun _ z => z⟩, _, by cases b <;> decide +kernel, RpT.bool.more (Nat.zero_le _)⟩
  | int n =>
    obtain rfl : v = .int n := i
    have z : Sm 200 n := by cases d <;> exact z
    have lg := Nat.lt_trans (Sm.log z (by decide)) (by decide : 200 < 1920)
    exact ⟨⟨_, atom_int z, (RpU.int lg).more (Nat.zero_le _) fun _ z => z⟩, _, atom_int z, (RpT.int lg).more (Nat.zero_le _)⟩
  | str s =>
    obtain rfl : v = .str s := i
    have z : (reprText s).length ≤ 100 := by cases d <;> exact z
    have l : (100 : Nat) ≤ sizeLine := by decide +kernel
    exact ⟨⟨_, by omega, (RpU.str (Nat.le_trans z l)).more (Nat.zero_le _) fun _ z => z⟩, _, by omega, (RpT.str (Nat.le_trans z l)).more (Nat.zero_le _)⟩
  | rat x y =>
    obtain ⟨a, dx, rfl, g⟩ := i
    have z : Sm 100 x ∧ Sm 100 y ∧ 0 < y := by cases d <;> exact z
    have lt := (ratText_len (z.1.mono (by decide)) (z.2.1.mono (by decide))).2.2
    have p : ∀ H1, Same H H1 → RpP C H1 a (ratText x y) := fun H1 hs => ⟨x, y, ⟨dx, hs _ _ g⟩, z.1.mono (by decide), z.2.1.mono (by decide), rfl⟩
    exact ⟨⟨_, lt, RpU.own R g p⟩, _, lt, RpT.own R g p⟩
  | lst ts => exact absurd rfl (n1 ts)
  | tup ts => exact absurd rfl (n2 ts)
  | dct ts => exact absurd rfl (n3 ts)
theorem Tr.rpU (R : ReprOf X C f fd k (RpP C)) : ∀ {d : Nat} {H : Hp} {v : V} {t : T}, Tr C H d v t → Sml d t → Shown X G0 (k + d) (Und C H (t.depth + 1)) H v (bnd d) ∧ ∃ x : Str, x.length ≤ bnd d ∧ RpT X G0 (k + d + 1) H v x := by
  intro d
  induction d with
  | zero =>
    intro H v t h z
    obtain ⟨⟨x, l, r⟩, x', l', r'⟩ := Tr.atomU (G0 := G0) R h z (fun ts e => by subst e; exact h.elim) (fun ts e => by subst e; exact h.elim) (fun ts e => by subst e; exact h.elim)
    exact ⟨⟨x, l, r.more (Nat.le_refl _) fun _ z => z.elim⟩, x', l', r'⟩
  | succ d ih =>
    intro H v t h z
    have bg := bnd_ge (d + 1)
    have be : bnd (d + 1) = 4 * (bnd d + 2100) := rfl
    have atom : (∀ ts, t ≠ .lst ts) → (∀ ts, t ≠ .tup ts) → (∀ ts, t ≠ .dct ts) → Shown X G0 (k + (d + 1)) (Und C H (t.depth + 1)) H v (bnd (d + 1)) ∧ ∃ x : Str, x.length ≤ bnd (d + 1) ∧ RpT X G0 (k + (d + 1) + 1) H v x := fun n1 n2 n3 => by
      obtain ⟨⟨x, l, r⟩, x', l', r'⟩ := Tr.atomU (G0 := G0) R h z n1 n2 n3
      exact ⟨⟨x, by omega, r.more (by omega) fun _ z => z.elim⟩, x', by omega, r'.more (by omega)⟩
    cases t with
    | lst ts =>
      obtain ⟨a, vs, rfl, g, r⟩ := id h
      obtain ⟨xs, all, hl⟩ := all_shown (X := X) (G0 := G0) (k := k + d) (S := Und C H (T.lst ts).depth) (H := H) (xs := vs) (b := bnd d) fun i x e => by
        obtain ⟨t, e2, q⟩ := r.to e
        have l := depthL_get e2
        obtain ⟨⟨x', l', r'⟩, _⟩ := ih q (z.2 t (List.mem_of_getElem? e2))
        exact ⟨x', l', r'.more (Nat.le_refl _) (Und.mono (by rw [T.depth]; omega))⟩
      have c := many_le hl (by rw [all.1, r.1]; exact z.1)
      have len := listText_len_le xs
      cases vs with
      | nil => exact ⟨⟨"[]", by show 2 ≤ _; omega, (RpU.nilL g).more (Nat.zero_le _) fun _ z => z.elim⟩, "[]", by show 2 ≤ _; omega, (RpT.nilL g).more (Nat.zero_le _)⟩
      | cons x0 r0 =>
        cases hh : hitL G0 a with
        | true => exact ⟨⟨"[...]", by show 5 ≤ _; omega, (RpU.lstHit g hh).more (Nat.zero_le _) fun _ z => z.elim⟩, "[...]", by show 5 ≤ _; omega, (RpT.lstHit g hh).more (by omega)⟩
        | false => exact ⟨⟨_, by omega, (RpU.lst hh (Und.self h) g all).more (Nat.le_refl _) (Und.up h (Nat.lt_succ_self _))⟩, _, by omega, (RpT.lst hh (Und.self h) g all).more (by omega)⟩
    | tup ts =>
      obtain ⟨a, vs, rfl, g, r⟩ := id h
      obtain ⟨xs, all, hl⟩ := all_shown (X := X) (G0 := G0) (k := k + d) (S := Und C H (T.tup ts).depth) (H := H) (xs := vs) (b := bnd d) fun i x e => by
        obtain ⟨t, e2, q⟩ := r.to e
        have l := depthL_get e2
        obtain ⟨⟨x', l', r'⟩, _⟩ := ih q (z.2 t (List.mem_of_getElem? e2))
        exact ⟨x', l', r'.more (Nat.le_refl _) (Und.mono (by rw [T.depth]; omega))⟩
      have c := many_le hl (by rw [all.1, r.1]; exact z.1)
      have len := tupleText_len_le xs
      cases hh : hitT G0 a with
      | true => exact ⟨⟨"(...)", by show 5 ≤ _; omega, (RpU.tupHit g hh).more (Nat.zero_le _) fun _ z => z.elim⟩, "(...)", by show 5 ≤ _; omega, (RpT.tupHit g hh).more (by omega)⟩
      | false => exact ⟨⟨_, by omega, (RpU.tup hh (Und.self h) g all).more (Nat.le_refl _) (Und.up h (Nat.lt_succ_self _))⟩, _, by omega, (RpT.tup hh (Und.self h) g all).more (by omega)⟩
    | dct ts =>
      obtain ⟨a, ws, rfl, g, r⟩ := id h
      obtain ⟨xs, all, hl⟩ := ent_shown (X := X) (G0 := G0) (k := k + d) (S := Und C H (T.dct ts).depth) (H := hide a H) (ws := ws) (b := bnd d) (fun p hp => z.1.key (r.1 ▸ List.mem_map_of_mem (f := (·.1)) hp)) fun i x e => by
        obtain ⟨t, e2, q⟩ := r.to e
        have l := depthD_get e2
        have q' : Tr C (hide a H) d x.2 t := q.hid fun d' t' z => by
          have l : t.depth ≤ depthD ts := l
          rw [← h.det z, T.depth]
          omega
        obtain ⟨⟨x', l', r'⟩, _⟩ := ih q' (z.2 (x.1, t) (List.mem_of_getElem? e2))
        refine ⟨x', l', r'.more (Nat.le_refl _) fun b u => ?_⟩
        obtain ⟨d1, t1, r1, l1⟩ := u
        have l : t.depth ≤ depthD ts := l
        have l1 : t1.depth < t.depth + 1 := l1
        exact ⟨d1, t1, r1.same hide_same, by rw [T.depth]; omega⟩
      have l3 := z.1.len.1
      rw [List.length_map] at l3
      have c := many_le hl (by rw [all.1, r.len]; omega)
      have len := dictText_len_le xs
      cases hh : hitD G0 a with
      | true => exact ⟨⟨"{...}", by show 5 ≤ _; omega, (RpU.dctHit g hh).more (Nat.zero_le _) fun _ z => z.elim⟩, "{...}", by show 5 ≤ _; omega, (RpT.dctHit g hh).more (by omega)⟩
      | false => exact ⟨⟨_, by omega, (RpU.dct hh (Und.self h) g all).more (Nat.le_refl _) (Und.up h (Nat.lt_succ_self _))⟩, _, by omega, (RpT.dct hh (Und.self h) g all).more (by omega)⟩
    | non => exact atom (fun _ e => nomatch e) (fun _ e => nomatch e) fun _ e => nomatch e
    | bl b => exact atom (fun _ e => nomatch e) (fun _ e => nomatch e) fun _ e => nomatch e
    | int b => exact atom (fun _ e => nomatch e) (fun _ e => nomatch e) fun _ e => nomatch e
    | str b => exact atom (fun _ e => nomatch e) (fun _ e => nomatch e) fun _ e => nomatch e
    | rat x y => exact atom (fun _ e => nomatch e) (fun _ e => nomatch e) fun _ e => nomatch e
end
end K2

/-! What fixed makes of a tree. -/
namespace K2
open PySem PySem.Spec PyProof.Rows L2 K1

def klt : Key → Key → Bool
  | .inl i, .inl j => decide (i < j)
  | .inr a, .inr b => decide (a.cps.toList < b.cps.toList)
  | _, _ => false
/-- put in ahead of the first that is not less -/
def insK (ks : List Key) (k : Key) : List Key := ks.takeWhile (klt · k) ++ k :: ks.dropWhile (klt · k)
def ord (ks : List Key) : List Key := ks.foldl insK []
def keyT : Key → T
  | .inl i => .int i
  | .inr s => .str s
def pick (k : Key) : List (Key × T) → T
  | [] => .non
  | (k', t) :: r => if k' = k then t else pick k r
mutual
def fix : T → T
  | .lst ts => .tup (fixL ts)
  | .tup ts => .tup (fixL ts)
  | .dct kvs => .tup ((ord (kvs.map (·.1))).map fun k => .tup [keyT k, pick k (fixP kvs)])
  | .non => .non
  | .bl b => .bl b
  | .int n => .int n
  | .str s => .str s
  | .rat x y => .rat x y
def fixL : List T → List T
  | [] => []
  | t :: ts => fix t :: fixL ts
def fixP : List (Key × T) → List (Key × T)
  | [] => []
  | (k, t) :: ts => (k, fix t) :: fixP ts
end
theorem fixL_map : ∀ ts : List T, fixL ts = ts.map fix
  | [] => rfl
  | t :: ts => by rw [fixL, fixL_map ts]; rfl
theorem fixP_map : ∀ ts : List (Key × T), fixP ts = ts.map fun p => (p.1, fix p.2)
  | [] => rfl
  | (k, t) :: ts => by rw [fixP, fixP_map ts]; rfl
theorem pick_fix {k : Key} : ∀ {ts : List (Key × T)}, k ∈ ts.map (·.1) → pick k (fixP ts) = fix (pick k ts)
  | [], h => by simp at h
  | (k', t) :: ts, h => by
    rw [fixP]
    by_cases e : k' = k
    · rw [pick, pick, if_pos e, if_pos e]
    · rw [pick, pick, if_neg e, if_neg e]
      exact pick_fix (by
        rcases List.mem_cons.mp h with h | h
        · exact absurd h.symm e
        · exact h)
theorem pick_mem {k : Key} : ∀ {ts : List (Key × T)}, k ∈ ts.map (·.1) → (k, pick k ts) ∈ ts
  | [], h => by simp at h
  | (k', t) :: ts, h => by
    by_cases e : k' = k
    · rw [pick, if_pos e, e]; exact .head _
    · rw [pick, if_neg e]
      exact .tail _ (pick_mem (by
        rcases List.mem_cons.mp h with h | h
        · exact absurd h.symm e
        · exact h))

/-! the orders -/
def tuplesN {α : Type} (xs : List α) : Nat → List (List α)
  | 0 => [[]]
  | n + 1 => xs.flatMap fun x => (tuplesN xs n).map (x :: ·)
theorem mem_tuples {α : Type} {xs : List α} : ∀ {ys : List α}, (∀ y ∈ ys, y ∈ xs) → ys ∈ tuplesN xs ys.length
  | [], _ => .head _
  | y :: ys, h => by
    rw [List.length_cons, tuplesN, List.mem_flatMap]
    exact ⟨y, h y (.head _), List.mem_map.mpr ⟨ys, mem_tuples fun z hz => h z (.tail _ hz), rfl⟩⟩
theorem ordS_all : ∀ zs ∈ famS, ∀ ys ∈ tuplesN zs zs.length, ys.isPerm zs = true → sortedS ys = true → ys.map Sum.inr = ord (zs.map Sum.inr) := by decide +kernel
theorem ordI_all : ∀ zs ∈ famI, ∀ ys ∈ tuplesN zs zs.length, ys.isPerm zs = true → ys.Pairwise (· ≤ ·) → ys.map Sum.inl = ord (zs.map Sum.inl) := by decide +kernel
theorem ordS {zs ys : List Str} (h : zs ∈ famS) (p : ys.Perm zs) (s : sortedS ys = true) : ys.map Sum.inr = ord (zs.map Sum.inr) :=
  ordS_all zs h ys (by have := mem_tuples (xs := zs) (ys := ys) fun y hy => p.mem_iff.mp hy; rwa [p.length_eq] at this) (List.isPerm_iff.mpr p) s
theorem ordI {zs ys : List Int} (h : zs ∈ famI) (p : ys.Perm zs) (s : ys.Pairwise (· ≤ ·)) : ys.map Sum.inl = ord (zs.map Sum.inl) :=
  ordI_all zs h ys (by have := mem_tuples (xs := zs) (ys := ys) fun y hy => p.mem_iff.mp hy; rwa [p.length_eq] at this) (List.isPerm_iff.mpr p) s
theorem ord_permS : ∀ zs ∈ famS, @List.isPerm Key instBEqOfDecidableEq (ord (zs.map Sum.inr)) (zs.map Sum.inr) = true ∧ (zs.map Sum.inr : List Key).Nodup ∧ zs.reverse ∈ famS ∧ ord (zs.reverse.map Sum.inr) = ord (zs.map Sum.inr) := by decide +kernel
theorem ord_permI : ∀ zs ∈ famI, @List.isPerm Key instBEqOfDecidableEq (ord (zs.map Sum.inl)) (zs.map Sum.inl) = true ∧ (zs.map Sum.inl : List Key).Nodup ∧ zs.reverse ∈ famI ∧ ord (zs.reverse.map Sum.inl) = ord (zs.map Sum.inl) := by decide +kernel
theorem KeysOk.ordP {ks : List Key} (h : KeysOk ks) : (ord ks).Perm ks ∧ ks.Nodup ∧ KeysOk ks.reverse ∧ ord ks.reverse = ord ks := by
  rcases h with ⟨zs, hz, rfl⟩ | ⟨zs, hz, rfl⟩
  · obtain ⟨a, b, c, d⟩ := ord_permS zs hz
    rw [← List.map_reverse]
    exact ⟨(@List.isPerm_iff Key instBEqOfDecidableEq _ _ _).mp a, b, .inl ⟨_, c, rfl⟩, d⟩
  · obtain ⟨a, b, c, d⟩ := ord_permI zs hz
    rw [← List.map_reverse]
    exact ⟨(@List.isPerm_iff Key instBEqOfDecidableEq _ _ _).mp a, b, .inr ⟨_, c, rfl⟩, d⟩
theorem KeysOk.ord_len {ks : List Key} (h : KeysOk ks) : (ord ks).length ≤ 3 := by rw [h.ordP.1.length_eq]; exact h.len.1
theorem KeysOk.ord_mem {ks : List Key} (h : KeysOk ks) {k : Key} : k ∈ ord ks ↔ k ∈ ks := h.ordP.1.mem_iff

/-! fixed trees -/
mutual
def isFx : T → Bool
  | .lst _ => false
  | .dct _ => false
  | .tup ts => isFxL ts
  | _ => true
def isFxL : List T → Bool
  | [] => true
  | t :: ts => isFx t && isFxL ts
end
theorem isFxL_all : ∀ {ts : List T}, isFxL ts = true ↔ ∀ t ∈ ts, isFx t = true
  | [] => by rw [isFxL]; exact ⟨fun _ t h => by simp at h, fun _ => rfl⟩
  | t :: ts => by
    rw [isFxL, Bool.and_eq_true, isFxL_all]
    exact ⟨fun h u hu => by rcases List.mem_cons.mp hu with rfl | hu; exact h.1; exact h.2 u hu, fun h => ⟨h t (.head _), fun u hu => h u (.tail _ hu)⟩⟩
theorem isFx_keyT (k : Key) : isFx (keyT k) = true := by cases k <;> rfl
/-- a fixed tree stays -/
theorem fix_of_fx : ∀ {n : Nat} {t : T}, t.depth ≤ n → isFx t = true → fix t = t := by
  intro n
  induction n with
  | zero =>
    intro t l h
    cases t <;> first | rfl | (rw [T.depth] at l; omega)
  | succ n ih =>
    intro t l h
    cases t with
    | lst ts => rw [isFx] at h; cases h
    | dct ts => rw [isFx] at h; cases h
    | tup ts =>
      rw [isFx, isFxL_all] at h
      rw [T.depth] at l
      rw [fix, fixL_map]
      refine congrArg T.tup ?_
      have : ts.map fix = ts.map id := List.map_congr_left fun t ht => by
        obtain ⟨i, hi⟩ := List.getElem?_of_mem ht
        have := depthL_get hi
        exact ih (by omega) (h t ht)
      rw [this, List.map_id]
    | _ => rfl
/-- what fixed makes is fixed, and small if the tree was -/
theorem fix_ok : ∀ {n : Nat} {t : T}, Sml n t → isFx (fix t) = true ∧ Sml (2 * n) (fix t) ∧ (fix t).depth ≤ 2 * t.depth := by
  intro n
  induction n with
  | zero =>
    intro t h
    cases t <;> first | exact h.elim | exact ⟨rfl, h, by rw [fix]; omega⟩
  | succ n ih =>
    intro t h
    have many : ∀ ts : List T, ts.length ≤ 4 → (∀ t ∈ ts, Sml n t) → isFx (.tup (fixL ts)) = true ∧ Sml (2 * (n + 1)) (.tup (fixL ts)) ∧ (T.tup (fixL ts)).depth ≤ 2 * (depthL ts + 1) := by
      intro ts hl h
      rw [fixL_map, show 2 * (n + 1) = (2 * n + 1) + 1 by omega]
      refine ⟨?_, ⟨by rw [List.length_map]; exact hl, fun t ht => ?_⟩, ?_⟩
      · rw [isFx, isFxL_all]
        intro t ht
        obtain ⟨u, hu, rfl⟩ := List.mem_map.mp ht
        exact (ih (h u hu)).1
      · obtain ⟨u, hu, rfl⟩ := List.mem_map.mp ht
        exact (ih (h u hu)).2.1.mono (by omega)
      · have : depthL (ts.map fix) ≤ 2 * depthL ts := depthL_le fun t ht => by
          obtain ⟨u, hu, rfl⟩ := List.mem_map.mp ht
          obtain ⟨i, hi⟩ := List.getElem?_of_mem hu
          have := depthL_get hi
          have := (ih (h u hu)).2.2
          omega
        have e : (T.tup (ts.map fix)).depth = depthL (ts.map fix) + 1 := by rw [T.depth]
        omega
    cases t with
    | lst ts => rw [fix, T.depth]; exact many ts h.1 h.2
    | tup ts => rw [fix]; have := many ts h.1 h.2; rw [T.depth] at this ⊢; rw [T.depth]; exact this
    | dct ts =>
      obtain ⟨hk, hs⟩ := h
      have each : ∀ k ∈ ord (ts.map (·.1)), isFx (pick k (fixP ts)) = true ∧ Sml (2 * n) (pick k (fixP ts)) ∧ (pick k (fixP ts)).depth ≤ 2 * depthD ts := by
        intro k hkm
        have hm := hk.ord_mem.mp hkm
        rw [pick_fix hm]
        have m := pick_mem hm
        obtain ⟨a, b, c⟩ := ih (hs _ m)
        obtain ⟨i, hi⟩ := List.getElem?_of_mem m
        have l : (pick k ts).depth ≤ depthD ts := depthD_get hi
        have c : (fix (pick k ts)).depth ≤ 2 * (pick k ts).depth := c
        exact ⟨a, b, by omega⟩
      rw [fix, show 2 * (n + 1) = (2 * n + 1) + 1 by omega]
      refine ⟨?_, ⟨by rw [List.length_map]; have := hk.ord_len; omega, fun t ht => ?_⟩, ?_⟩
      · rw [isFx, isFxL_all]
        intro t ht
        obtain ⟨k, hkm, rfl⟩ := List.mem_map.mp ht
        rw [isFx, isFxL, isFxL, isFxL, isFx_keyT, (each k hkm).1]
        rfl
      · obtain ⟨k, hkm, rfl⟩ := List.mem_map.mp ht
        refine ⟨show 2 ≤ 4 by decide, fun u hu => ?_⟩
        rcases List.mem_cons.mp hu with rfl | hu
        · have z := hk.key (hk.ord_mem.mp hkm)
          cases k with
          | inl i =>
            have z : decide (i.natAbs < 1000) = true := z
            have z := of_decide_eq_true z
            exact Sml.mono (Nat.zero_le _) (show Sm 200 i from Nat.lt_trans z (by decide))
          | inr x =>
            have z : decide ((reprText x).length ≤ 20) = true := z
            have z := of_decide_eq_true z
            exact Sml.mono (Nat.zero_le _) (show (reprText x).length ≤ 100 by omega)
        · obtain rfl : u = _ := by simpa using hu
          exact (each k hkm).2.1
      · rw [T.depth, T.depth]
        have : depthL ((ord (ts.map (·.1))).map fun k => T.tup [keyT k, pick k (fixP ts)]) ≤ 2 * depthD ts + 1 := depthL_le fun t ht => by
          obtain ⟨k, hkm, rfl⟩ := List.mem_map.mp ht
          have := (each k hkm).2.2
          rw [T.depth, depthL, depthL, depthL]
          have : (keyT k).depth = 0 := by cases k <;> rfl
          omega
        omega
    | non => exact ⟨rfl, trivial, Nat.zero_le _⟩
    | bl b => exact ⟨rfl, trivial, Nat.zero_le _⟩
    | int m => exact ⟨rfl, Sml.mono (d := 0) (Nat.zero_le _) h, Nat.zero_le _⟩
    | str s => exact ⟨rfl, Sml.mono (d := 0) (Nat.zero_le _) h, Nat.zero_le _⟩
    | rat x y => exact ⟨rfl, Sml.mono (d := 0) (Nat.zero_le _) h, Nat.zero_le _⟩
theorem fix_fix {n : Nat} {t : T} (h : Sml n t) : fix (fix t) = fix t := fix_of_fx (Nat.le_refl _) (fix_ok h).1
end K2

/-! What the defs that walk trees need. -/
namespace K2
open PySem PySem.Spec PyProof.Rows L2 K1 LamX

theorem pi_or {X : Cx} {tg l : Expr} {w1 w2 : TI} (h1 : PI X tg l w1) (h2 : PI X tg l w2) : PI X tg l (fun σ H R => w1 σ H R ∨ w2 σ H R) :=
  ⟨fun pins s σ H R I h => h.elim (h1.run pins s σ H R I) (h2.run pins s σ H R I)⟩
theorem pe_both {X : Cx} {e : Expr} {t1 t2 : TE} (h1 : PE X e t1) (h2 : PE X e t2) : PE X e (fun σ H Q => t1 σ H Q ∨ t2 σ H Q) :=
  ⟨fun pins s σ H Q I h => h.elim (h1.run pins s σ H Q I) (h2.run pins s σ H Q I)⟩
theorem cr_both {X : Cx} {v : Value} {r1 r2 : List V → Hp → VK → Prop} (h1 : CallR X v r1) (h2 : CallR X v r2) : CallR X v (fun xs H Q => r1 xs H Q ∨ r2 xs H Q) :=
  fun pins s σ H xs us Q I r h => h.elim (h1 pins s σ H xs us Q I r) (h2 pins s σ H xs us Q I r)
theorem op_both {X : Cx} {f : Value → Value → Sem Value} {r1 r2 : R2} (h1 : OpR X f r1) (h2 : OpR X f r2) : OpR X f (fun x y H Q => r1 x y H Q ∨ r2 x y H Q) :=
  fun pins s σ H x y v u Q I rx ry h => h.elim (h1 pins s σ H x y v u Q I rx ry) (h2 pins s σ H x y v u Q I rx ry)
/-- a def that is not called -/
theorem fn_no {P : Program} {w : World} {K : PySem.W.Frag} {mg : Str → Option Value} {base : Heap} {CX : CXT} {k : Nat} {f : Addr} {fd : FuncData} {ps : List Str} : FnOk P w K mg base CX k f fd ps (fun _ _ _ _ => False) :=
  ⟨fun _ _ _ _ h => h.elim, fun _ _ _ _ _ _ _ _ _ _ _ _ _ h => h.elim⟩

/-- what the written part says of Ratio beside RatF: no list, no tuple, no dict -/
structure RatX (K : PySem.W.Frag) (C : Addr) : Prop where
  l : PySem.W.kitOne K (.ref C) (.type "list") = some false
  t : PySem.W.kitOne K (.ref C) (.type "tuple") = some false
  d : PySem.W.kitOne K (.ref C) (.type "dict") = some false
/-- more built-in names -/
structure Glob2 (mg : Str → Option Value) : Prop where
  dict : mg "dict" = none
  sorted : mg "sorted" = none
  zip : mg "zip" = none
  type : mg "type" = none

/-- the class of a tree -/
def tyT (C : Addr) : T → Value
  | .non => .type "NoneType"
  | .bl _ => .type "bool"
  | .int _ => .type "int"
  | .str _ => .type "str"
  | .rat _ _ => .ref C
  | .lst _ => .type "list"
  | .tup _ => .type "tuple"
  | .dct _ => .type "dict"
theorem Tr.ty {K : PySem.W.Frag} {C : Addr} {H : Hp} {d : Nat} {v : V} {t : T} (R : RatF K C) (h : Tr C H d v t) : TyOf K H v (tyT C t) := by
  have i := h.inv
  cases t with
  | non => obtain rfl : v = .non := i; exact .non
  | bl b => obtain rfl : v = .bl b := i; exact .bl b
  | int n => obtain rfl : v = .int n := i; exact .int n
  | str s => obtain rfl : v = .str s := i; exact .str s
  | rat x y => obtain ⟨a, dx, rfl, g⟩ := i; exact RatAt.ty R ⟨dx, g⟩
  | lst ts => obtain ⟨a, vs, rfl, g, _⟩ := i; exact .lst g
  | tup ts => obtain ⟨a, vs, rfl, g, _⟩ := i; exact .tup g
  | dct ts => obtain ⟨a, vs, rfl, g, _⟩ := i; exact .dK g
def isLT : T → Bool
  | .lst _ => true
  | .tup _ => true
  | _ => false
def isL : T → Bool
  | .lst _ => true
  | _ => false
def isT : T → Bool
  | .tup _ => true
  | _ => false
def isD : T → Bool
  | .dct _ => true
  | _ => false
def isR : T → Bool
  | .rat _ _ => true
  | _ => false
section
variable {K : PySem.W.Frag} {C : Addr}
theorem kit_L (X : RatX K C) (t : T) : PySem.W.kitOne K (tyT C t) (.type "list") = some (isL t) := by
  cases t with
  | non => exact kit_ty (a := "NoneType") (b := "list") (r := false) (by decide +kernel)
  | bl _ => exact kit_ty (a := "bool") (b := "list") (r := false) (by decide +kernel)
  | int _ => exact kit_ty (a := "int") (b := "list") (r := false) (by decide +kernel)
  | str _ => exact kit_ty (a := "str") (b := "list") (r := false) (by decide +kernel)
  | rat _ _ => exact X.l
  | lst _ => exact kit_ty (a := "list") (b := "list") (r := true) (by decide +kernel)
  | tup _ => exact kit_ty (a := "tuple") (b := "list") (r := false) (by decide +kernel)
  | dct _ => exact kit_ty (a := "dict") (b := "list") (r := false) (by decide +kernel)
theorem kit_T (X : RatX K C) (t : T) : PySem.W.kitOne K (tyT C t) (.type "tuple") = some (isT t) := by
  cases t with
  | non => exact kit_ty (a := "NoneType") (b := "tuple") (r := false) (by decide +kernel)
  | bl _ => exact kit_ty (a := "bool") (b := "tuple") (r := false) (by decide +kernel)
  | int _ => exact kit_ty (a := "int") (b := "tuple") (r := false) (by decide +kernel)
  | str _ => exact kit_ty (a := "str") (b := "tuple") (r := false) (by decide +kernel)
  | rat _ _ => exact X.t
  | lst _ => exact kit_ty (a := "list") (b := "tuple") (r := false) (by decide +kernel)
  | tup _ => exact kit_ty (a := "tuple") (b := "tuple") (r := true) (by decide +kernel)
  | dct _ => exact kit_ty (a := "dict") (b := "tuple") (r := false) (by decide +kernel)
theorem kit_D (X : RatX K C) (t : T) : PySem.W.kitOne K (tyT C t) (.type "dict") = some (isD t) := by
  cases t with
  | non => exact kit_ty (a := "NoneType") (b := "dict") (r := false) (by decide +kernel)
  | bl _ => exact kit_ty (a := "bool") (b := "dict") (r := false) (by decide +kernel)
  | int _ => exact kit_ty (a := "int") (b := "dict") (r := false) (by decide +kernel)
  | str _ => exact kit_ty (a := "str") (b := "dict") (r := false) (by decide +kernel)
  | rat _ _ => exact X.d
  | lst _ => exact kit_ty (a := "list") (b := "dict") (r := false) (by decide +kernel)
  | tup _ => exact kit_ty (a := "tuple") (b := "dict") (r := false) (by decide +kernel)
  | dct _ => exact kit_ty (a := "dict") (b := "dict") (r := true) (by decide +kernel)
theorem kit_R (R : RatF K C) (t : T) : PySem.W.kitOne K (tyT C t) (.ref C) = some (isR t) := by
  cases t with
  | non => exact R.odd "NoneType" (by decide)
  | bl _ => exact R.odd "bool" (by decide)
  | int _ => exact R.int
  | str _ => exact R.odd "str" (by decide)
  | rat _ _ => exact R.me
  | lst _ => exact R.odd "list" (by decide)
  | tup _ => exact R.odd "tuple" (by decide)
  | dct _ => exact R.odd "dict" (by decide)
theorem kit_LT (X : RatX K C) (t : T) : PySem.W.kitAny K (tyT C t) [.type "list", .type "tuple"] = some (isLT t) :=
  kitAny_cons (kit_L X t) (fun e => kitAny_cons (kit_T X t) (fun e2 => by cases t <;> first | rfl | (cases e; done) | (cases e2; done)) fun e2 => by cases t <;> first | rfl | (cases e2; done)) fun e => by cases t <;> first | rfl | (cases e; done)
end
/-- a fixed tree has no part at a list or a dict -/
theorem Tr.off {C p : Addr} {H : Hp} : ∀ {d : Nat} {v : V} {t : T}, Tr C H d v t → isFx t = true → (∀ xs, H p ≠ some (.tup xs)) → (∀ c dx fs, H p ≠ some (.ins c dx fs)) → Tr C (hide p H) d v t := by
  intro d
  induction d with
  | zero =>
    intro v t h f n1 n2
    cases t with
    | rat x y =>
      obtain ⟨a, e, dx, g⟩ := id h
      refine ⟨a, e, dx, ?_⟩
      rw [hide_ne]
      · exact g
      · rintro rfl; exact n2 _ _ _ g
    | lst ts => exact h.elim
    | tup ts => exact h.elim
    | dct ts => exact h.elim
    | _ => exact h
  | succ d ih =>
    intro v t h f n1 n2
    cases t with
    | rat x y =>
      obtain ⟨a, e, dx, g⟩ := id h
      refine ⟨a, e, dx, ?_⟩
      rw [hide_ne]
      · exact g
      · rintro rfl; exact n2 _ _ _ g
    | lst ts => rw [isFx] at f; cases f
    | dct ts => rw [isFx] at f; cases f
    | tup ts =>
      rw [isFx, isFxL_all] at f
      obtain ⟨a, vs, e, g, r⟩ := id h
      refine ⟨a, vs, e, ?_, r.1, fun i v t e1 e2 => ih (r.2 i v t e1 e2) (f t (List.mem_of_getElem? e2)) n1 n2⟩
      rw [hide_ne]
      · exact g
      · rintro rfl; exact n1 _ g
    | _ => exact h
theorem hide_upd {p : Addr} {H : Hp} {o : HO} : Same (hide p H) (upd H p o) := fun b u e => by
  obtain ⟨h1, h2⟩ := hide_of e
  rw [upd_ne h1]
  exact h2
/-- .. so it stands whatever a list or a dict becomes -/
theorem Tr.putL {C p : Addr} {H : Hp} {d : Nat} {v : V} {t : T} {xs : List V} {o : HO} (h : Tr C H d v t) (f : isFx t = true) (e : H p = some (.lst xs)) : Tr C (upd H p o) d v t :=
  (h.off f (fun _ z => by rw [e] at z; cases z) fun _ _ _ z => by rw [e] at z; cases z).same hide_upd
theorem Tr.putF {C p : Addr} {H : Hp} {d : Nat} {v : V} {t : T} {ob : Obj} {u o : HO} (h : Tr C H d v t) (f : isFx t = true) (e : H p = some (.frz ob u)) : Tr C (upd H p o) d v t :=
  (h.off f (fun _ z => by rw [e] at z; cases z) fun _ _ _ z => by rw [e] at z; cases z).same hide_upd
theorem Tr.putD {C p : Addr} {H : Hp} {d : Nat} {v : V} {t : T} {xs : List (Key × V)} {o : HO} (h : Tr C H d v t) (f : isFx t = true) (e : H p = some (.dK xs)) : Tr C (upd H p o) d v t :=
  (h.off f (fun _ z => by rw [e] at z; cases z) fun _ _ _ z => by rw [e] at z; cases z).same hide_upd

/-! ### entries of a dict and their trees -/
theorem AllE.val {R : V → T → Prop} : ∀ {ws : List (Key × V)} {kvs : List (Key × T)}, AllE R ws kvs → ∀ {k : Key}, k ∈ kvs.map (·.1) → ∃ v, valV ws k = some v ∧ R v (pick k kvs) := by
  intro ws
  induction ws with
  | nil =>
    intro kvs h k hk
    rw [← h.1] at hk
    simp at hk
  | cons w ws ih =>
    intro kvs h k hk
    cases kvs with
    | nil => simp at hk
    | cons q kvs =>
      obtain ⟨k1, t1⟩ := q
      obtain ⟨k0, v0⟩ := w
      have e := h.1
      simp only [List.map_cons, List.cons.injEq] at e
      obtain ⟨rfl, e⟩ := e
      by_cases z : k0 = k
      · exact ⟨v0, valV_pos z, by rw [pick, if_pos z]; exact h.2 0 _ _ rfl rfl⟩
      · rw [valV_neg z, pick, if_neg z]
        refine ih ⟨e, fun i p q e1 e2 => h.2 (i + 1) p q (by simpa using e1) (by simpa using e2)⟩ ?_
        rcases List.mem_cons.mp hk with hk | hk
        · exact absurd hk.symm z
        · exact hk
end K2

/-! fixed. -/
namespace K2
open PySem PySem.Spec PyProof.Rows L2 K1 LamX

def spFix (C : Addr) (d : Nat) : Sp := fun vs H Q _ => ∃ v t, vs = [v] ∧ Tr C H d v t ∧ Sml d t ∧ ∀ v' H', Same H H' → Tr C H' (fix t).depth v' (fix t) → Q v' H'
def NFix : List Str := ["value", "item", "key"]
/-- the trees gs stand in the list at D, so far -/
def Done (C : Addr) (H : Hp) (D : Addr) (gs : List T) (i : Nat) : Prop := ∃ us, H D = some (.lst us) ∧ us.length = i ∧ ∀ (j : Nat) (u : V) (g : T), us[j]? = some u → gs[j]? = some g → Tr C H g.depth u g
theorem Done.zero {C : Addr} {H : Hp} {D : Addr} {gs : List T} : Done C (upd H D (.lst [])) D gs 0 := ⟨[], upd_same, rfl, fun j u g e => by simp at e⟩
theorem Done.step {C : Addr} {H H' : Hp} {D : Addr} {gs : List T} {i : Nat} {g : T} {v : V} (h : Done C H D gs i) (hx : ∀ g ∈ gs, isFx g = true) (hl : gs.length ≤ 1000) (hg : gs[i]? = some g) (s : Same H H') (r : Tr C H' g.depth v g) :
    ∃ acc, H' D = some (.lst acc) ∧ acc.length < sizeLine ∧ Done C (upd H' D (.lst (acc ++ [v]))) D gs (i + 1) := by
  obtain ⟨us, h1, h2, h3⟩ := h
  have hD := s _ _ h1
  refine ⟨us, hD, ?_, us ++ [v], upd_same, by rw [List.length_append, h2]; rfl, fun j u g' e1 e2 => ?_⟩
  · have := (List.getElem?_eq_some_iff.mp hg).1
    have line : (1000 : Nat) < sizeLine := by decide +kernel
    omega
  · rcases Nat.lt_or_ge j us.length with hj | hj
    · rw [List.getElem?_append_left hj] at e1
      exact ((h3 j u g' e1 e2).same s).putL (hx _ (List.mem_of_getElem? e2)) hD
    · rw [List.getElem?_append_right hj] at e1
      have e0 : j - us.length = 0 := by
        rcases Nat.eq_zero_or_pos (j - us.length) with z | z
        · exact z
        · rw [List.getElem?_eq_none (by simp; omega)] at e1; cases e1
      rw [e0] at e1
      obtain rfl : v = u := by simpa using e1
      have ej : j = i := by omega
      subst ej
      rw [hg] at e2
      injection e2 with e2
      subst e2
      exact r.putL (hx _ (List.mem_of_getElem? hg)) hD
/-- .. and are a tuple -/
theorem Done.tup {C : Addr} {H : Hp} {D : Addr} {gs : List T} (h : Done C H D gs gs.length) : ∃ us, H D = some (.lst us) ∧ ∀ q, H q = none → Tr C (upd H q (.tup us)) (T.tup gs).depth (.ref q) (.tup gs) := by
  obtain ⟨us, h1, h2, h3⟩ := h
  refine ⟨us, h1, fun q hq => ?_⟩
  rw [T.depth]
  exact ⟨q, us, rfl, upd_same, h2, fun i v t e1 e2 => ((h3 i v t e1 e2).tight (depthL_get e2)).same (upd_new hq)⟩
theorem pair_tr {C : Addr} {H : Hp} {p : Addr} {k : Key} {v : V} {g : T} (hp : H p = none) (r : Tr C H g.depth v g) : Tr C (upd H p (.tup [kV k, v])) (T.tup [keyT k, g]).depth (.ref p) (.tup [keyT k, g]) := by
  rw [T.depth]
  refine ⟨p, _, rfl, upd_same, rfl, fun i u t e1 e2 => ?_⟩
  have l := depthL_get e2
  match i, e1, e2 with
  | 0, e1, e2 =>
    simp at e1 e2
    subst e1 e2
    refine Tr.mono (Nat.zero_le _) ?_
    cases k <;> rfl
  | 1, e1, e2 =>
    simp at e1 e2
    subst e1 e2
    exact (r.same (upd_new hp)).tight l
  | i + 2, e1, e2 => simp at e1
/-- what fixed makes of entries -/
def fixE (ts : List (Key × T)) : List T := (ord (ts.map (·.1))).map fun k => .tup [keyT k, pick k (fixP ts)]
theorem fix_dct (ts : List (Key × T)) : fix (.dct ts) = .tup (fixE ts) := by rw [fix]; rfl
theorem fixE_fx {n : Nat} {ts : List (Key × T)} (h : Sml n (.dct ts)) : ∀ g ∈ fixE ts, isFx g = true := by
  have := (fix_ok h).1
  rw [fix_dct, isFx, isFxL_all] at this
  exact this
theorem fixL_len (ts : List T) : (fixL ts).length = ts.length := by rw [fixL_map, List.length_map]
theorem fixL_get {ts : List T} {i : Nat} {t : T} (e : ts[i]? = some t) : (fixL ts)[i]? = some (fix t) := by rw [fixL_map, List.getElem?_map, e]; rfl
theorem fixL_fx {n : Nat} {ts : List T} (h : ∀ t ∈ ts, Sml n t) : ∀ g ∈ fixL ts, isFx g = true := fun g hg => by
  rw [fixL_map] at hg
  obtain ⟨t, ht, rfl⟩ := List.mem_map.mp hg
  exact (fix_ok (h t ht)).1
section
variable {P : Program} {w : World} {K : PySem.W.Frag} {mg : Str → Option Value} {base : Heap} {f C : Addr} {fd : FuncData}
theorem scFixed : FnScope NFix ["value"] (defScope sFixed) := ⟨rfl, rfl, rfl, by decide +kernel, rfl, by decide +kernel, by decide +kernel⟩
theorem ok_fixed_of {d : Nat} {spr : Sp} (G : Glob mg) (G2 : Glob2 mg) (R : RatF K C) (RX : RatX K C) (F : DefAt K "fixed" "fixed" sFixed f fd) (mf : mg "fixed" = some (.ref f)) (kf : PySem.W.keepIn K (.ref f) = true) (bf : Binds K fd ["value"] [])
    (FR : FnOk P w K mg base CX0 (d + 1) f fd ["value"] spr) (hrec : ∀ d', d = d' + 1 → spr = spFix C d') : FnOk P w K mg base CX0 (d + 2) f fd ["value"] (spFix C d) := by
  refine okN F scFixed (fun vs H Q E ⟨v, t, e, _⟩ => by rw [e]; rfl) (fun cdv A outer s H vs Q E hr ⟨v, t, e, tr, sm, q⟩ => ?_)
  subst e
  refine ⟨_, pss_cons (ps_if (pt_val (pe_callB call_isiT (by rfl) G.isi (by decide +kernel) (pa_cons (pv 0) (pa_cons (pe_tup (pa_cons (pe_bltn (by rfl) G.lst (by decide +kernel) (v := .ty "list") rfl) (pa_cons (pe_bltn (by rfl) G.tup (by decide +kernel) (v := .ty "tuple") rfl) pa_nil))) pa_nil))))
      (pss_one (ps_ret (pe_tupleOf (by rfl) G.tup (pe_lc (own := [("item", 1)]) (g := gName 1) (tt := tYes) rfl scFixed.nd (pi_or (pi_list (pv 0)) (pi_tup (pv 0))) (blkOk_by (N := NFix) (sc := defScope sFixed) (by decide +kernel))
            (fun _ _ _ _ _ => pg_name (i := 1) scFixed.nd rfl (Or.inl rfl)) (fun _ _ _ _ _ => pts_nil) (fun _ _ _ _ _ => pe_call FR hr rfl mf kf bf .nil pass0 (pa_cons (pv 1) pa_nil)))))) pss_nil)
    (pss_cons (ps_if (pt_val (pe_callB call_isi (by rfl) G.isi (by decide +kernel) (pa_cons (pv 0) (pa_cons (pe_bltn (by rfl) G2.dict (by decide +kernel) (v := .ty "dict") rfl) pa_nil))))
      (pss_one (ps_ret (pe_tupleOf (by rfl) G.tup (pe_lc (own := [("key", 2)]) (g := gName 2) (tt := tYes) rfl scFixed.nd (pi_list (pe_callB (cr_both cr_sortedS cr_sorted) (by rfl) G2.sorted (by decide +kernel) (pa_cons (pe_callTy (call_listD rfl) (by rfl) G.lst (by decide +kernel) (pa_cons (pv 0) pa_nil)) pa_nil))) (blkOk_by (N := NFix) (sc := defScope sFixed) (by decide +kernel))
            (fun _ _ _ _ _ => pg_name (i := 2) scFixed.nd rfl (Or.inl rfl)) (fun _ _ _ _ _ => pts_nil) (fun _ _ _ _ _ => pe_tup (pa_cons (pv 2) (pa_cons (pe_call FR hr rfl mf kf bf .nil pass0 (pa_cons (pe_dget (hu_of hr) (pv 0) (pv 2) (fun _ _ => rfl)) pa_nil)) pa_nil))))))) pss_nil)
    (pss_one (ps_ret (pv 0)))), ?_⟩
  refine ⟨_, rfl, (by show 2 ≤ sizeLine; decide), fun p np => ?_⟩
  have s1 : Same H (upd H p (.tup [.ty "list", .ty "tuple"])) := upd_new np
  refine ⟨_, p, _, _, [.type "list", .type "tuple"], _, rfl, upd_same, .cons (.ty _) (.cons (.ty _) .nil), .base ((tr.same s1).ty R), kit_LT RX t, ?_⟩
  have tr1 := tr.same s1
  have line : (1000 : Nat) < sizeLine := by decide +kernel
  revert tr1 s1
  generalize upd H p (.tup [.ty "list", .ty "tuple"]) = H1
  intro s1 tr1
  have i := tr1.inv
  cases t with
  | lst ts =>
    obtain ⟨a, vs, rfl, g, e, rfl, al⟩ := i
    obtain rfl := hrec e rfl
    refine ⟨true, rfl, iteT ?_⟩
    refine Or.inl ⟨_, rfl, a, rfl, ⟨_, SqL.of g⟩, fun D hD => ?_⟩
    refine lc_list (K := K) (a := a) (xs := vs) (fun i H2 => Same H1 H2 ∧ Done C H2 D (fixL ts) i) ⟨upd_new hD, .zero⟩ (fun i H2 _ z => SqL.of (z.1 _ _ g)) ?_ ?_
    · rintro i x H2 hx ⟨s2, dn⟩
      obtain ⟨t, et, rt⟩ := al.to hx
      refine ⟨rfl, yes_of ⟨x, rfl, x, t, rfl, rt.same s2, sm.2 t (List.mem_of_getElem? et), fun v' H' s3 r' => ?_⟩⟩
      obtain ⟨acc, e1, e2, e3⟩ := dn.step (fixL_fx sm.2) (by rw [fixL_len]; exact Nat.le_trans sm.1 (by decide)) (fixL_get et) s3 r'
      exact ⟨acc, e1, e2, fun c o z => by rw [upd_ne (ne_of_none z hD)]; exact s3 _ _ (s2 _ _ z), e3⟩
    · rintro H2 ⟨s2, dn⟩
      rw [al.1, ← fixL_len] at dn
      obtain ⟨us, e1, r⟩ := dn.tup
      refine .inl ⟨D, us, rfl, SqL.of e1, fun p hp => ?_⟩
      have hf : fix (.lst ts) = .tup (fixL ts) := by rw [fix]
      refine q _ _ ((s1.trans s2).trans (upd_new hp)) ?_
      rw [hf]
      exact r p hp
  | tup ts =>
    obtain ⟨a, vs, rfl, g, e, rfl, al⟩ := i
    obtain rfl := hrec e rfl
    refine ⟨true, rfl, iteT ?_⟩
    refine Or.inr ⟨_, rfl, a, rfl, ⟨_, SqT.of g⟩, fun D hD => ?_⟩
    refine lc_tup (K := K) (a := a) (xs := vs) (fun i H2 => Same H1 H2 ∧ Done C H2 D (fixL ts) i) ⟨upd_new hD, .zero⟩ (fun i H2 _ z => SqT.of (z.1 _ _ g)) ?_ ?_
    · rintro i x H2 hx ⟨s2, dn⟩
      obtain ⟨t, et, rt⟩ := al.to hx
      refine ⟨rfl, yes_of ⟨x, rfl, x, t, rfl, rt.same s2, sm.2 t (List.mem_of_getElem? et), fun v' H' s3 r' => ?_⟩⟩
      obtain ⟨acc, e1, e2, e3⟩ := dn.step (fixL_fx sm.2) (by rw [fixL_len]; exact Nat.le_trans sm.1 (by decide)) (fixL_get et) s3 r'
      exact ⟨acc, e1, e2, fun c o z => by rw [upd_ne (ne_of_none z hD)]; exact s3 _ _ (s2 _ _ z), e3⟩
    · rintro H2 ⟨s2, dn⟩
      rw [al.1, ← fixL_len] at dn
      obtain ⟨us, e1, r⟩ := dn.tup
      refine .inl ⟨D, us, rfl, SqL.of e1, fun p hp => ?_⟩
      have hf : fix (.tup ts) = .tup (fixL ts) := by rw [fix]
      refine q _ _ ((s1.trans s2).trans (upd_new hp)) ?_
      rw [hf]
      exact r p hp
  | dct ts =>
    obtain ⟨a, ws, rfl, g, e, rfl, al⟩ := i
    obtain rfl := hrec e rfl
    refine ⟨false, rfl, iteF ?_⟩
    refine ⟨_, rfl, _, _, _, _, true, rfl, .ty "dict", .base (tr1.ty R), kit_D RX _, true, rfl, iteT ?_⟩
    have line : (1000 : Nat) < sizeLine := by decide +kernel
    refine ⟨_, rfl, a, ws, rfl, .of g, fun l hl => ?_⟩
    -- the keys
    have sorted : ∀ (Q2 : VK), (∀ p H2, Same H1 H2 → H2 p = some (.lst ((ord (ts.map (·.1))).map kV)) → Q2 (.ref p) H2) → rSortedS K [.ref l] (upd H1 l (.lst (ws.map fun kv => kV kv.1))) Q2 ∨ rSorted K [.ref l] (upd H1 l (.lst (ws.map fun kv => kV kv.1))) Q2 := by
      intro Q2 h
      have e1 : ws.map (fun kv => kV kv.1) = (ts.map (·.1)).map kV := by rw [← al.1, List.map_map]; rfl
      rw [e1]
      have fin : ∀ (p : Addr) (ks : List V), (ord (ts.map (·.1))).map kV = ks → upd H1 l (.lst ((ts.map (·.1)).map kV)) p = none → Q2 (.ref p) (upd (upd H1 l (.lst ((ts.map (·.1)).map kV))) p (.lst ks)) := by
        rintro p _ rfl hp
        exact h p _ ((upd_new hl).trans (upd_new hp)) upd_same
      rcases sm.1 with ⟨zs, hz, ez⟩ | ⟨zs, hz, ez⟩
      · rw [ez] at fin ⊢
        refine .inl ⟨l, zs, rfl, ?_, Nat.lt_of_le_of_lt (famS_len zs hz).1 (by decide), fun ys p pm srt hp => ?_⟩
        · have : (zs.map Sum.inr : List Key).map kV = zs.map V.str := by rw [List.map_map]; rfl
          rw [this]; exact SqL.of upd_same
        · exact fin p _ (by rw [← ordS hz pm srt, List.map_map]; rfl) hp
      · rw [ez] at fin ⊢
        refine .inr ⟨l, zs, rfl, ?_, Nat.lt_of_le_of_lt (famI_len zs hz).1 (by decide), fun ys p pm srt hp => ?_⟩
        · have : (zs.map Sum.inl : List Key).map kV = zs.map V.int := by rw [List.map_map]; rfl
          rw [this]; exact SqL.of upd_same
        · exact fin p _ (by rw [← ordI hz pm srt, List.map_map]; rfl) hp
    refine sorted _ fun b H2 s2 hb => ?_
    refine ⟨b, rfl, ⟨_, SqL.of hb⟩, fun D hD => ?_⟩
    have ol := sm.1.ord_len
    refine lc_list (K := K) (a := b) (xs := (ord (ts.map (·.1))).map kV) (fun i H3 => Same H2 H3 ∧ Done C H3 D (fixE ts) i) ⟨upd_new hD, .zero⟩ (fun i H3 _ z => SqL.of (z.1 _ _ hb)) ?_ ?_
    · rintro i x H3 hx ⟨s3, dn⟩
      rw [List.getElem?_map] at hx
      obtain ⟨k, hk, rfl⟩ := Option.map_eq_some_iff.mp hx
      have km := sm.1.ord_mem.mp (List.mem_of_getElem? hk)
      have g3 : H3 a = some (.dK ws) := s3 _ _ (s2 _ _ g)
      have al3 := al.mono (R' := Tr C H3 e) fun _ _ _ _ z => z.same (s2.trans s3)
      obtain ⟨v, hv, rv⟩ := al3.val km
      refine ⟨rfl, yes_of ⟨_, rfl, _, rfl, _, rfl, a, v, rfl, ?_, v, _, rfl, rv, sm.2 _ (pick_mem km), fun v' H' s4 r' => ⟨(by show 2 ≤ sizeLine; decide), fun p hp => ?_⟩⟩⟩
      · rw [← hv]; exact DGet.k g3
      rw [← pick_fix km] at r'
      have s5 := upd_new (o := .tup [kV k, v']) hp
      obtain ⟨acc, e1, e2, e3⟩ := dn.step (fixE_fx sm) (by rw [fixE, List.length_map]; omega) (by rw [fixE, List.getElem?_map, hk]; rfl) (s4.trans s5) (pair_tr hp r')
      exact ⟨acc, e1, e2, fun c o z => by rw [upd_ne (ne_of_none z hD)]; exact s5 _ _ (s4 _ _ (s3 _ _ z)), e3⟩
    · rintro H3 ⟨s3, dn⟩
      have el : ((ord (ts.map (·.1))).map kV).length = (fixE ts).length := by rw [fixE, List.length_map, List.length_map]
      rw [el] at dn
      obtain ⟨us, e1, r⟩ := dn.tup
      refine .inl ⟨D, us, rfl, SqL.of e1, fun p hp => ?_⟩
      refine q _ _ (((s1.trans s2).trans s3).trans (upd_new hp)) ?_
      rw [fix_dct]
      exact r p hp
  | non => exact ⟨false, rfl, iteF ⟨_, rfl, _, _, _, _, _, rfl, .ty "dict", .base (tr1.ty R), kit_D RX _, false, rfl, iteF ⟨_, rfl, q _ _ s1 tr1.tgt⟩⟩⟩
  | bl b => exact ⟨false, rfl, iteF ⟨_, rfl, _, _, _, _, _, rfl, .ty "dict", .base (tr1.ty R), kit_D RX _, false, rfl, iteF ⟨_, rfl, q _ _ s1 tr1.tgt⟩⟩⟩
  | int b => exact ⟨false, rfl, iteF ⟨_, rfl, _, _, _, _, _, rfl, .ty "dict", .base (tr1.ty R), kit_D RX _, false, rfl, iteF ⟨_, rfl, q _ _ s1 tr1.tgt⟩⟩⟩
  | str b => exact ⟨false, rfl, iteF ⟨_, rfl, _, _, _, _, _, rfl, .ty "dict", .base (tr1.ty R), kit_D RX _, false, rfl, iteF ⟨_, rfl, q _ _ s1 tr1.tgt⟩⟩⟩
  | rat x y => exact ⟨false, rfl, iteF ⟨_, rfl, _, _, _, _, _, rfl, .ty "dict", .base (tr1.ty R), kit_D RX _, false, rfl, iteF ⟨_, rfl, q _ _ s1 tr1.tgt⟩⟩⟩
theorem ok_fixed (G : Glob mg) (G2 : Glob2 mg) (R : RatF K C) (RX : RatX K C) (F : DefAt K "fixed" "fixed" sFixed f fd) (mf : mg "fixed" = some (.ref f)) (kf : PySem.W.keepIn K (.ref f) = true) (bf : Binds K fd ["value"] []) :
    ∀ d, FnOk P w K mg base CX0 (d + 2) f fd ["value"] (spFix C d)
  | 0 => ok_fixed_of G G2 R RX F mf kf bf fn_no fun _ e => nomatch e
  | d + 1 => ok_fixed_of G G2 R RX F mf kf bf (ok_fixed G G2 R RX F mf kf bf d) fun d' e => by injection e with e; rw [e]
/-- a def that does what fixed is to do -/
structure HasFix (P : Program) (w : World) (K : PySem.W.Frag) (mg : Str → Option Value) (base : Heap) (C : Addr) (nm : Str) (p : Str) : Prop where
  h : ∃ f fd, mg nm = some (.ref f) ∧ PySem.W.keepIn K (.ref f) = true ∧ Binds K fd [p] [] ∧ ∀ d, FnOk P w K mg base CX0 (d + 2) f fd [p] (spFix C d)
end
end K2

/-! The law's own fixed. -/
namespace K2
open PySem PySem.Spec PyProof.Rows L2 K1 LamX

def NLFix : List Str := ["_law_value_here", "_law_pairs", "_law_key", "_law_at", "_law_part"]
/-- the trees gs stand in a row -/
def Row (C : Addr) (H : Hp) (us : List V) (gs : List T) : Prop := us.length = gs.length ∧ ∀ (j : Nat) (u : V) (g : T), us[j]? = some u → gs[j]? = some g → Tr C H g.depth u g
theorem Row.same {C : Addr} {H H' : Hp} {us : List V} {gs : List T} (h : Row C H us gs) (s : Same H H') : Row C H' us gs := ⟨h.1, fun j u g e1 e2 => (h.2 j u g e1 e2).same s⟩
theorem Row.nil {C : Addr} {H : Hp} : Row C H [] [] := ⟨rfl, fun j u g e => by simp at e⟩
theorem Row.one {C : Addr} {H : Hp} {u : V} {g : T} (h : Tr C H g.depth u g) : Row C H [u] [g] := ⟨rfl, fun j u' g' e1 e2 => by
  match j, e1, e2 with
  | 0, e1, e2 => simp at e1 e2; subst e1 e2; exact h
  | j + 1, e1, e2 => simp at e1⟩
theorem Row.app {C : Addr} {H : Hp} {us us' : List V} {gs gs' : List T} (h : Row C H us gs) (h' : Row C H us' gs') : Row C H (us ++ us') (gs ++ gs') := by
  refine ⟨by rw [List.length_append, List.length_append, h.1, h'.1], fun j u g e1 e2 => ?_⟩
  rcases Nat.lt_or_ge j us.length with hj | hj
  · rw [List.getElem?_append_left hj] at e1
    rw [List.getElem?_append_left (h.1 ▸ hj)] at e2
    exact h.2 j u g e1 e2
  · rw [List.getElem?_append_right hj] at e1
    rw [List.getElem?_append_right (h.1 ▸ hj), ← h.1] at e2
    exact h'.2 _ u g e1 e2
theorem Row.take {C : Addr} {H : Hp} {us : List V} {gs : List T} (h : Row C H us gs) (n : Nat) : Row C H (us.take n) (gs.take n) := by
  refine ⟨by rw [List.length_take, List.length_take, h.1], fun j u g e1 e2 => ?_⟩
  rw [List.getElem?_take] at e1 e2
  by_cases hj : j < n
  · rw [if_pos hj] at e1 e2; exact h.2 j u g e1 e2
  · rw [if_neg hj] at e1; cases e1
theorem Row.drop {C : Addr} {H : Hp} {us : List V} {gs : List T} (h : Row C H us gs) (n : Nat) : Row C H (us.drop n) (gs.drop n) := by
  refine ⟨by rw [List.length_drop, List.length_drop, h.1], fun j u g e1 e2 => ?_⟩
  rw [List.getElem?_drop] at e1 e2
  exact h.2 _ u g e1 e2
theorem Row.tup {C : Addr} {H : Hp} {us : List V} {gs : List T} (h : Row C H us gs) {q : Addr} (hq : H q = none) : Tr C (upd H q (.tup us)) (T.tup gs).depth (.ref q) (.tup gs) := by
  rw [T.depth]
  exact ⟨q, us, rfl, upd_same, h.1, fun i v t e1 e2 => ((h.2 i v t e1 e2).tight (depthL_get e2)).same (upd_new hq)⟩
/-- the pairs of such keys -/
def prs (ts : List (Key × T)) (ks : List Key) : List T := ks.map fun k => .tup [keyT k, pick k (fixP ts)]
theorem take_while {p : Key → Bool} : ∀ {ks : List Key} {j : Nat}, j ≤ ks.length → (∀ i k, i < j → ks[i]? = some k → p k = true) → (∀ k, ks[j]? = some k → p k = false) → ks.takeWhile p = ks.take j ∧ ks.dropWhile p = ks.drop j
  | [], j, _, _, _ => by simp
  | k :: ks, 0, _, _, h => by
    have := h k rfl
    simp [List.takeWhile_cons, List.dropWhile_cons, this]
  | k :: ks, j + 1, l, h, h' => by
    have a := h 0 k (Nat.succ_pos _) rfl
    obtain ⟨b, c⟩ := take_while (ks := ks) (j := j) (by simpa using l) (fun i k hi e => h (i + 1) k (Nat.succ_lt_succ hi) (by simpa using e)) (fun k e => h' k (by simpa using e))
    simp [List.takeWhile_cons, List.dropWhile_cons, a, b, c]
theorem cut_take {xs : List V} {j : Nat} (h : j ≤ xs.length) : cutV xs none (some (j : Int)) = xs.take j := by
  unfold cutV
  rw [HT.sIx_none, HT.sIx_nat, List.drop_zero, Nat.sub_zero, Nat.min_eq_left h]
theorem cut_drop {xs : List V} {j : Nat} (h : j ≤ xs.length) : cutV xs (some (j : Int)) none = xs.drop j := by
  unfold cutV
  rw [HT.sIx_none, HT.sIx_nat, Nat.min_eq_left h, ← List.length_drop, List.take_length]
theorem insK_len (ks : List Key) (k : Key) : (insK ks k).length = ks.length + 1 := by
  unfold insK
  have := congrArg List.length (List.takeWhile_append_dropWhile (p := (klt · k)) (l := ks))
  rw [List.length_append] at this
  rw [List.length_append, List.length_cons]
  omega
theorem ord_take (ks : List Key) {i : Nat} {k : Key} (e : ks[i]? = some k) : ord (ks.take (i + 1)) = insK (ord (ks.take i)) k := by
  obtain ⟨hi, e⟩ := List.getElem?_eq_some_iff.mp e
  unfold ord
  rw [List.take_succ_eq_append_getElem hi, List.foldl_append, e]
  rfl
theorem ord_len' : ∀ (ks acc : List Key), (ks.foldl insK acc).length = acc.length + ks.length
  | [], _ => rfl
  | k :: ks, acc => by rw [List.foldl_cons, ord_len' ks, insK_len, List.length_cons]; omega
theorem mem_insK {ks : List Key} {k x : Key} (h : x ∈ insK ks k) : x = k ∨ x ∈ ks := by
  unfold insK at h
  rcases List.mem_append.mp h with h | h
  · exact .inr ((List.takeWhile_sublist _).mem h)
  · rcases List.mem_cons.mp h with h | h
    · exact .inl h
    · exact .inr ((List.dropWhile_sublist _).mem h)
theorem mem_ord' : ∀ (ks acc : List Key) (x : Key), x ∈ ks.foldl insK acc → x ∈ ks ∨ x ∈ acc
  | [], _, _, h => .inr h
  | k :: ks, acc, x, h => by
    rw [List.foldl_cons] at h
    rcases mem_ord' ks _ x h with h | h
    · exact .inl (.tail _ h)
    · rcases mem_insK h with rfl | h
      · exact .inl (.head _)
      · exact .inr h
theorem keyT_val {C : Addr} {H : Hp} {d : Nat} {v : V} {k : Key} (h : Tr C H d v (keyT k)) : v = kV k := by
  have i := h.inv
  cases k <;> exact i
theorem cmp_k {ks : List Key} (h : KeysOk ks) {k1 k2 : Key} (h1 : k1 ∈ ks) (h2 : k2 ∈ ks) {H : Hp} {Q : VK} (q : Q (.bl (klt k1 k2)) H) :
    rI0 (fun i j => V.bl (decide (i < j))) (kV k1) (kV k2) H Q ∨ (∃ i j : Str, kV k1 = .str i ∧ kV k2 = .str j ∧ Q (.bl (decide (i.cps.toList < j.cps.toList))) H) := by
  rcases h with ⟨zs, _, rfl⟩ | ⟨zs, _, rfl⟩
  · obtain ⟨x, _, rfl⟩ := List.mem_map.mp h1
    obtain ⟨y, _, rfl⟩ := List.mem_map.mp h2
    exact .inr ⟨x, y, rfl, rfl, q⟩
  · obtain ⟨x, _, rfl⟩ := List.mem_map.mp h1
    obtain ⟨y, _, rfl⟩ := List.mem_map.mp h2
    exact .inl ⟨x, y, rfl, rfl, q⟩
theorem prs_get {ts : List (Key × T)} {ks : List Key} {j : Nat} {k : Key} (e : ks[j]? = some k) : (prs ts ks)[j]? = some (.tup [keyT k, pick k (fixP ts)]) := by
  unfold prs
  rw [List.getElem?_map, e]
  rfl
theorem ord_mem_take {ks : List Key} {i : Nat} {k : Key} (h : k ∈ ord (ks.take i)) : k ∈ ks := by
  rcases mem_ord' _ _ _ h with h | h
  · exact List.mem_of_mem_take h
  · simp at h
section
variable {P : Program} {w : World} {K : PySem.W.Frag} {mg : Str → Option Value} {base : Heap} {f C : Addr} {fd : FuncData}
theorem scLFixed : FnScope NLFix ["_law_value_here"] (defScope sLFixed) := ⟨rfl, rfl, rfl, by decide +kernel, rfl, by decide +kernel, by decide +kernel⟩
theorem ok_lfixed_of {d : Nat} {spr : Sp} (G : Glob mg) (G2 : Glob2 mg) (R : RatF K C) (RX : RatX K C) (F : DefAt K "_law_fixed" "_law_fixed" sLFixed f fd) (mf : mg "_law_fixed" = some (.ref f)) (kf : PySem.W.keepIn K (.ref f) = true) (bf : Binds K fd ["_law_value_here"] [])
    (FR : FnOk P w K mg base CX0 (d + 1) f fd ["_law_value_here"] spr) (hrec : ∀ d', d = d' + 1 → spr = spFix C d') : FnOk P w K mg base CX0 (d + 2) f fd ["_law_value_here"] (spFix C d) := by
  refine okN F scLFixed (fun vs H Q E ⟨v, t, e, _⟩ => by rw [e]; rfl) (fun cdv A outer s H vs Q E hr ⟨v, t, e, tr, sm, q⟩ => ?_)
  subst e
  refine ⟨_, pss_cons (ps_if (pt_val (pe_callB call_isi (by rfl) G.isi (by decide +kernel) (pa_cons (pv 0) (pa_cons (pe_bltn (by rfl) G2.dict (by decide +kernel) (v := .ty "dict") rfl) pa_nil))))
      (pss_cons (ps_set (i := 1) scLFixed.nd rfl (Or.inl rfl) (pe_lst pa_nil))
      (pss_cons (ps_lock (ps_for PassesOwn.never rfl (pi_keys (pv 0)) (pg_name (i := 2) scLFixed.nd rfl (Or.inl rfl))
        (pss_cons (ps_set (i := 3) scLFixed.nd rfl (Or.inl rfl) pe_int)
        (pss_cons (ps_while PassesOwn.never (PW.pt (pw_and (pt_cmpR op_lt (pv 3) (pe_callB call_len_seq (by rfl) G.len PySem.boot_len (pa_cons (pv 1) pa_nil)) (nomark _))
              (pw_and1 (pt_cmpR (op_both op_lt op_lt_str) (pe_ix ix_tup (pe_ix ix_list (pv 1) (pv 3) (fun _ _ => rfl)) pe_int (fun _ _ => rfl)) (pv 2) (nomark _)))))
            (pss_one (ps_set (i := 3) scLFixed.nd rfl (Or.inl rfl) (pe_op op_add (pv 3) pe_int))))
        (pss_one (ps_set (i := 1) scLFixed.nd rfl (Or.inl rfl) (pe_op op_cat (pe_op op_cat (pe_slice sl_list (pv 1) po_none (po_some (pv 3)))
            (pe_lst (pa_cons (pe_tup (pa_cons (pv 2) (pa_cons (pe_call FR hr rfl mf kf bf .nil pass0 (pa_cons (pe_dget (hu_of hr) (pv 0) (pv 2) (fun _ _ => rfl)) pa_nil)) pa_nil))) pa_nil))) (pe_slice sl_list (pv 1) (po_some (pv 3)) po_none))))))))
      (pss_one (ps_ret (pe_tupleOf (by rfl) G.tup (pv 1)))))) pss_nil)
    (pss_cons (ps_if (PW.pt (pw_or (pt_val (pe_callB call_isi (by rfl) G.isi (by decide +kernel) (pa_cons (pv 0) (pa_cons (pe_bltn (by rfl) G.lst (by decide +kernel) (v := .ty "list") rfl) pa_nil))))
        (pw_or1 (pt_val (pe_callB call_isi (by rfl) G.isi (by decide +kernel) (pa_cons (pv 0) (pa_cons (pe_bltn (by rfl) G.tup (by decide +kernel) (v := .ty "tuple") rfl) pa_nil)))))))
      (pss_one (ps_ret (pe_tupleOf (by rfl) G.tup (pe_lc (own := [("_law_part", 4)]) (g := gName 4) (tt := tYes) rfl scLFixed.nd (pi_or (pi_list (pv 0)) (pi_tup (pv 0))) (blkOk_by (N := NLFix) (sc := defScope sLFixed) (by decide +kernel))
            (fun _ _ _ _ _ => pg_name (i := 4) scLFixed.nd rfl (Or.inl rfl)) (fun _ _ _ _ _ => pts_nil) (fun _ _ _ _ _ => pe_call FR hr rfl mf kf bf .nil pass0 (pa_cons (pv 4) pa_nil)))))) pss_nil)
    (pss_one (ps_ret (pv 0)))), ?_⟩
  have line : (1000 : Nat) < sizeLine := by decide +kernel
  have i := tr.inv
  cases t with
  | lst ts =>
    obtain ⟨a, vs, rfl, g, e, rfl, al⟩ := i
    obtain rfl := hrec e rfl
    refine ⟨_, rfl, _, _, _, _, false, rfl, .ty "dict", .base (tr.ty R), kit_D RX _, false, rfl, iteF ?_⟩
    refine ⟨_, rfl, _, _, _, _, true, rfl, .ty "list", .base (tr.ty R), kit_L RX _, true, rfl, iteT (iteT ?_)⟩
    refine Or.inl ⟨_, rfl, a, rfl, ⟨_, SqL.of g⟩, fun D hD => ?_⟩
    refine lc_list (K := K) (a := a) (xs := vs) (fun i H2 => Same H H2 ∧ Done C H2 D (fixL ts) i) ⟨upd_new hD, .zero⟩ (fun i H2 _ z => SqL.of (z.1 _ _ g)) ?_ ?_
    · rintro i x H2 hx ⟨s2, dn⟩
      obtain ⟨t, et, rt⟩ := al.to hx
      refine ⟨rfl, yes_of ⟨x, rfl, x, t, rfl, rt.same s2, sm.2 t (List.mem_of_getElem? et), fun v' H' s3 r' => ?_⟩⟩
      obtain ⟨acc, e1, e2, e3⟩ := dn.step (fixL_fx sm.2) (by rw [fixL_len]; exact Nat.le_trans sm.1 (by decide)) (fixL_get et) s3 r'
      exact ⟨acc, e1, e2, fun c o z => by rw [upd_ne (ne_of_none z hD)]; exact s3 _ _ (s2 _ _ z), e3⟩
    · rintro H2 ⟨s2, dn⟩
      rw [al.1, ← fixL_len] at dn
      obtain ⟨us, e1, r⟩ := dn.tup
      refine .inl ⟨D, us, rfl, SqL.of e1, fun p hp => ?_⟩
      have hf : fix (.lst ts) = .tup (fixL ts) := by rw [fix]
      refine q _ _ (s2.trans (upd_new hp)) ?_
      rw [hf]
      exact r p hp
  | tup ts =>
    obtain ⟨a, vs, rfl, g, e, rfl, al⟩ := i
    obtain rfl := hrec e rfl
    refine ⟨_, rfl, _, _, _, _, false, rfl, .ty "dict", .base (tr.ty R), kit_D RX _, false, rfl, iteF ?_⟩
    refine ⟨_, rfl, _, _, _, _, false, rfl, .ty "list", .base (tr.ty R), kit_L RX _, false, rfl, iteF ?_⟩
    refine ⟨_, rfl, _, _, _, _, true, rfl, .ty "tuple", .base (tr.ty R), kit_T RX _, true, rfl, iteT ?_⟩
    refine Or.inr ⟨_, rfl, a, rfl, ⟨_, SqT.of g⟩, fun D hD => ?_⟩
    refine lc_tup (K := K) (a := a) (xs := vs) (fun i H2 => Same H H2 ∧ Done C H2 D (fixL ts) i) ⟨upd_new hD, .zero⟩ (fun i H2 _ z => SqT.of (z.1 _ _ g)) ?_ ?_
    · rintro i x H2 hx ⟨s2, dn⟩
      obtain ⟨t, et, rt⟩ := al.to hx
      refine ⟨rfl, yes_of ⟨x, rfl, x, t, rfl, rt.same s2, sm.2 t (List.mem_of_getElem? et), fun v' H' s3 r' => ?_⟩⟩
      obtain ⟨acc, e1, e2, e3⟩ := dn.step (fixL_fx sm.2) (by rw [fixL_len]; exact Nat.le_trans sm.1 (by decide)) (fixL_get et) s3 r'
      exact ⟨acc, e1, e2, fun c o z => by rw [upd_ne (ne_of_none z hD)]; exact s3 _ _ (s2 _ _ z), e3⟩
    · rintro H2 ⟨s2, dn⟩
      rw [al.1, ← fixL_len] at dn
      obtain ⟨us, e1, r⟩ := dn.tup
      refine .inl ⟨D, us, rfl, SqL.of e1, fun p hp => ?_⟩
      have hf : fix (.tup ts) = .tup (fixL ts) := by rw [fix]
      refine q _ _ (s2.trans (upd_new hp)) ?_
      rw [hf]
      exact r p hp
  | dct ts =>
    obtain ⟨a, ws, rfl, g, e, rfl, al⟩ := i
    obtain rfl := hrec e rfl
    refine ⟨_, rfl, _, _, _, _, true, rfl, .ty "dict", .base (tr.ty R), kit_D RX _, true, rfl, iteT ?_⟩
    refine ⟨(by show 0 ≤ sizeLine; omega), fun b0 hb0 => ?_⟩
    have sb := upd_new (o := .lst []) hb0
    refine ⟨a, .dK ws, sb _ _ g, trivial, fun od => ?_⟩
    refine ⟨_, rfl, a, od, rfl, .inl ⟨ws, upd_same, ?_⟩⟩
    have ge := upd_same (H := upd H b0 (.lst [])) (a := a) (o := .frz od (.dK ws))
    have hid0 : ∀ (i : Nat) (p : Key × V) (q : Key × T), ws[i]? = some p → ts[i]? = some q → Tr C (hide a H) e p.2 q.2 := fun i p q e1 e2 => (al.2 i p q e1 e2).hid fun d' t' z => by
      have l := depthD_get e2
      rw [← tr.det z, T.depth]
      omega
    have sH : Same (hide a H) (upd (upd H b0 (.lst [])) a (.frz od (.dK ws))) := fun c o z => by
      obtain ⟨z1, z2⟩ := hide_of z
      rw [upd_ne z1]
      exact sb _ _ z2
    have nba : b0 ≠ a := by rintro rfl; rw [hb0] at g; cases g
    refine for_it walk_keys (fun i σ H3 => ∃ b us o2 o3 o4, σ = [some (.ref a), some (.ref b), o2, o3, o4] ∧ Same (hide a H) H3 ∧ H3 a = some (.frz od (.dK ws)) ∧ H3 b = some (.lst us) ∧ Row C H3 us (prs ts (ord ((ts.map (·.1)).take i))))
      ⟨b0, [], _, _, _, rfl, sH, ge, by rw [upd_ne nba]; exact upd_same, .nil⟩ (fun i σ H3 _ ⟨_, _, _, _, _, _, _, z, _⟩ => z) ?_ ?_
    · rintro i x σ Hx H3 hi ⟨b, us, o2, o3, o4, rfl, s3, g3, hb, row⟩ ⟨rfl, k, v, hk, rfl⟩
      have hk' : (ts.map (·.1))[i]? = some k := by rw [← al.1, List.getElem?_map, hk]; rfl
      have km : k ∈ ts.map (·.1) := List.mem_of_getElem? hk'
      have lk : (ord ((ts.map (·.1)).take i)).length = us.length := by rw [row.1, prs, List.length_map]
      have l3 : us.length ≤ 3 := by
        rw [← lk, ord, ord_len']
        have := sm.1.len.1
        rw [List.length_take]
        simp only [List.length_nil]
        omega
      generalize hks : ord ((ts.map (·.1)).take i) = ks at row lk
      have kin : ∀ k' ∈ ks, k' ∈ ts.map (·.1) := fun k' h => ord_mem_take (hks ▸ h)
      refine ⟨fun m σ' H' => ∃ j : Nat, m = us.length - j ∧ σ' = [some (.ref a), some (.ref b), some (kV k), some (.int j), o4] ∧ H3 = H' ∧ j ≤ us.length ∧ ∀ i' k', i' < j → ks[i']? = some k' → klt k' k = true, ⟨_, 0, rfl, rfl, rfl, Nat.zero_le _, fun i' k' z => absurd z (Nat.not_lt_zero _)⟩, ?_⟩
      rintro m σ' H' ⟨j, rfl, rfl, rfl, hj, hlt⟩
      refine ⟨_, rfl, _, rfl, b, us, rfl, .inl (SqL.of hb), _, _, rfl, rfl, _, rfl, ?_⟩
      by_cases hj2 : j < us.length
      case' pos =>
        rw [decide_eq_true (show (j : Int) < (us.length : Int) by omega)]
        obtain ⟨kj, hkj⟩ : ∃ kj, ks[j]? = some kj := ⟨_, List.getElem?_eq_getElem (lk ▸ hj2)⟩
        obtain ⟨u, hu⟩ : ∃ u, us[j]? = some u := ⟨_, List.getElem?_eq_getElem hj2⟩
        obtain ⟨p, xs, rfl, gp, e', _, al'⟩ := (row.2 j u _ hu (prs_get hkj)).inv
        obtain ⟨v0, hv0, t0⟩ := al'.at_ (i := 0) rfl
        obtain rfl := keyT_val t0
        refine iteT ⟨_, rfl, _, rfl, b, us, (j : Int), _, rfl, rfl, SqL.of hb, atI_nat hu, p, xs, 0, _, rfl, rfl, SqT.of gp, atI_nat (j := 0) hv0, _, rfl, ?_⟩
        refine cmp_k sm.1 (kin _ (List.mem_of_getElem? hkj)) km ⟨_, rfl, ?_⟩
        cases hc : klt kj k
        case' true =>
          refine iteT ⟨fun σ' H' => σ' = [some (.ref a), some (.ref b), some (kV k), some (.int ((j : Int) + 1)), o4] ∧ H3 = H', ?_, ⟨_, rfl, _, _, rfl, rfl, rfl, rfl⟩⟩
          rintro _ _ ⟨rfl, rfl⟩
          refine ⟨us.length - (j + 1), by omega, j + 1, rfl, rfl, rfl, hj2, fun i' k' hi' e => ?_⟩
          rcases Nat.lt_or_ge i' j with z | z
          · exact hlt i' k' z e
          · obtain rfl : i' = j := by omega
            rw [hkj] at e
            injection e with e
            rw [← e]; exact hc
        case' false =>
          have stop : ∀ k', ks[j]? = some k' → klt k' k = false := fun k' e => by
            rw [hkj] at e
            injection e with e
            rw [← e]; exact hc
          refine iteF ?_
      case' neg =>
        rw [decide_eq_false (show ¬ (j : Int) < (us.length : Int) by omega)]
        have stop : ∀ k', ks[j]? = some k' → klt k' k = false := fun k' e => by rw [List.getElem?_eq_none (by omega)] at e; cases e
        refine iteF (iteF ?_)
      all_goals
        obtain ⟨w1, w2⟩ := take_while (p := (klt · k)) (lk ▸ hj) hlt stop
        have hI : insK ks k = ks.take j ++ k :: ks.drop j := by unfold insK; rw [w1, w2]
        refine ⟨_, rfl, _, rfl, _, rfl, b, us, rfl, SqL.of hb, fun c1 n1 => ?_⟩
        rw [cut_take hj]
        have q1 := upd_new (o := .lst (us.take j)) n1
        have alK : AllE (Tr C (upd H3 c1 (.lst (us.take j))) e) ws ts := ⟨al.1, fun i p q e1 e2 => (hid0 i p q e1 e2).same (s3.trans q1)⟩
        obtain ⟨v1, hv1, rv1⟩ := alK.val km
        refine ⟨_, rfl, _, rfl, _, rfl, a, v1, rfl, ?_, v1, _, rfl, rv1, sm.2 _ (pick_mem km), fun v' H4 s4 r' => ⟨(by show 2 ≤ sizeLine; omega), fun p np => ⟨(by show 1 ≤ sizeLine; omega), fun l nl => ?_⟩⟩⟩
        · rw [← hv1]
          exact .inl ⟨ws, k, .inr ⟨od, q1 _ _ g3⟩, rfl, rfl⟩
        rw [← pick_fix km] at r'
        have q5 := upd_new (o := .tup [kV k, v']) np
        have rp := pair_tr (k := k) np r'
        have q6 := upd_new (o := .lst [V.ref p]) nl
        have q16 := ((q1.trans s4).trans q5).trans q6
        refine ⟨c1, l, us.take j, [V.ref p], rfl, rfl, q6 _ _ (q5 _ _ (s4 _ _ upd_same)), upd_same, ?_, fun c3 n3 => ?_⟩
        · rw [List.length_take]
          show min j us.length + 1 ≤ sizeLine
          omega
        have q7 := upd_new (o := .lst (us.take j ++ [V.ref p])) n3
        refine ⟨_, rfl, _, rfl, _, rfl, b, us, rfl, SqL.of (q7 _ _ (q16 _ _ hb)), fun c4 n4 => ?_⟩
        rw [cut_drop hj]
        have q8 := upd_new (o := .lst (us.drop j)) n4
        refine ⟨c3, c4, _, _, rfl, rfl, q8 _ _ upd_same, upd_same, ?_, fun c5 n5 => ?_⟩
        · rw [List.length_append, List.length_take, List.length_drop]
          show min j us.length + 1 + (us.length - j) ≤ sizeLine
          omega
        have q9 := upd_new (o := .lst (us.take j ++ [V.ref p] ++ us.drop j)) n5
        have q19 := ((q16.trans q7).trans q8).trans q9
        refine ⟨c5, _, _, _, _, rfl, s3.trans q19, q19 _ _ g3, upd_same, ?_⟩
        rw [ord_take _ hk', hks, hI]
        have r0 := row.same q19
        have e0 : prs ts (ks.take j ++ k :: ks.drop j) = (prs ts ks).take j ++ [.tup [keyT k, pick k (fixP ts)]] ++ (prs ts ks).drop j := by
          unfold prs
          rw [List.map_append, List.map_take, List.map_cons, List.map_drop, List.append_assoc]
          rfl
        rw [e0]
        exact ((r0.take j).app (.one (rp.same (((q6.trans q7).trans q8).trans q9)))).app (r0.drop j)
    · rintro σ H3 ⟨b, us, o2, o3, o4, rfl, s3, g3, hb, row⟩
      have ba : b ≠ a := by rintro rfl; rw [hb] at g3; cases g3
      have ek : ord ((ts.map (·.1)).take ws.length) = ord (ts.map (·.1)) := by rw [List.take_of_length_le (by rw [List.length_map, al.len]; omega)]
      rw [ek] at row
      have rowU : Row C (upd H3 a (.dK ws)) us (fixE ts) := ⟨row.1, fun j u g' e1 e2 => (row.2 j u g' e1 e2).putF (fixE_fx sm g' (List.mem_of_getElem? e2)) g3⟩
      have sU : Same H (upd H3 a (.dK ws)) := fun c o z => by
        by_cases hc : c = a
        · subst hc; rw [g] at z; cases z; exact upd_same
        · rw [upd_ne hc]; exact s3 _ _ (by rw [hide_ne hc]; exact z)
      refine ⟨g3, _, rfl, .inl ⟨b, us, rfl, SqL.of (by rw [upd_ne ba]; exact hb), fun p hp => ?_⟩⟩
      refine q _ _ (sU.trans (upd_new hp)) ?_
      rw [fix_dct]
      exact rowU.tup hp
  | non => exact ⟨_, rfl, _, _, _, _, false, rfl, .ty "dict", .base (tr.ty R), kit_D RX _, false, rfl, iteF ⟨_, rfl, _, _, _, _, false, rfl, .ty "list", .base (tr.ty R), kit_L RX _, false, rfl, iteF ⟨_, rfl, _, _, _, _, false, rfl, .ty "tuple", .base (tr.ty R), kit_T RX _, false, rfl, iteF ⟨_, rfl, q _ _ (Same.refl _) tr.tgt⟩⟩⟩⟩
  | bl b => exact ⟨_, rfl, _, _, _, _, false, rfl, .ty "dict", .base (tr.ty R), kit_D RX _, false, rfl, iteF ⟨_, rfl, _, _, _, _, false, rfl, .ty "list", .base (tr.ty R), kit_L RX _, false, rfl, iteF ⟨_, rfl, _, _, _, _, false, rfl, .ty "tuple", .base (tr.ty R), kit_T RX _, false, rfl, iteF ⟨_, rfl, q _ _ (Same.refl _) tr.tgt⟩⟩⟩⟩
  | int b => exact ⟨_, rfl, _, _, _, _, false, rfl, .ty "dict", .base (tr.ty R), kit_D RX _, false, rfl, iteF ⟨_, rfl, _, _, _, _, false, rfl, .ty "list", .base (tr.ty R), kit_L RX _, false, rfl, iteF ⟨_, rfl, _, _, _, _, false, rfl, .ty "tuple", .base (tr.ty R), kit_T RX _, false, rfl, iteF ⟨_, rfl, q _ _ (Same.refl _) tr.tgt⟩⟩⟩⟩
  | str b => exact ⟨_, rfl, _, _, _, _, false, rfl, .ty "dict", .base (tr.ty R), kit_D RX _, false, rfl, iteF ⟨_, rfl, _, _, _, _, false, rfl, .ty "list", .base (tr.ty R), kit_L RX _, false, rfl, iteF ⟨_, rfl, _, _, _, _, false, rfl, .ty "tuple", .base (tr.ty R), kit_T RX _, false, rfl, iteF ⟨_, rfl, q _ _ (Same.refl _) tr.tgt⟩⟩⟩⟩
  | rat x y => exact ⟨_, rfl, _, _, _, _, false, rfl, .ty "dict", .base (tr.ty R), kit_D RX _, false, rfl, iteF ⟨_, rfl, _, _, _, _, false, rfl, .ty "list", .base (tr.ty R), kit_L RX _, false, rfl, iteF ⟨_, rfl, _, _, _, _, false, rfl, .ty "tuple", .base (tr.ty R), kit_T RX _, false, rfl, iteF ⟨_, rfl, q _ _ (Same.refl _) tr.tgt⟩⟩⟩⟩
theorem ok_lfixed (G : Glob mg) (G2 : Glob2 mg) (R : RatF K C) (RX : RatX K C) (F : DefAt K "_law_fixed" "_law_fixed" sLFixed f fd) (mf : mg "_law_fixed" = some (.ref f)) (kf : PySem.W.keepIn K (.ref f) = true) (bf : Binds K fd ["_law_value_here"] []) :
    ∀ d, FnOk P w K mg base CX0 (d + 2) f fd ["_law_value_here"] (spFix C d)
  | 0 => ok_lfixed_of G G2 R RX F mf kf bf fn_no fun _ e => nomatch e
  | d + 1 => ok_lfixed_of G G2 R RX F mf kf bf (ok_lfixed G G2 R RX F mf kf bf d) fun d' e => by injection e with e; rw [e]
end
end K2

/-! == of fixed trees. -/
namespace K2
open PySem PySem.Spec PyProof.Rows L2 K1
open SeqAt AutoSeq1 MeetsSeq MeetsSeq2 MeetsSeq3

mutual
def eqv : T → T → Bool
  | .non, .non => true
  | .bl a, .bl b => a == b
  | .bl a, .int n => (if a then 1 else 0) == n
  | .int m, .bl b => m == (if b then 1 else 0)
  | .int m, .int n => m == n
  | .str a, .str b => a == b
  | .rat x y, .rat x' y' => decide (x = x') && decide (y = y')
  | .rat x y, .int n => decide (y = 1) && decide (x = n)
  | .int n, .rat x y => decide (y = 1) && decide (x = n)
  | .tup ts, .tup us => eqvL ts us && ts.length == us.length
  | _, _ => false
def eqvL : List T → List T → Bool
  | t :: ts, u :: us => eqv t u && eqvL ts us
  | _, _ => true
end
theorem eqvL_refl : ∀ {ts : List T}, (∀ t ∈ ts, eqv t t = true) → eqvL ts ts = true
  | [], _ => by rw [eqvL]; intro a b c d e; cases e
  | t :: ts, h => by rw [eqvL, h t (.head _), eqvL_refl fun u hu => h u (.tail _ hu)]; rfl
theorem eqv_refl : ∀ {n : Nat} {t : T}, t.depth ≤ n → isFx t = true → eqv t t = true := by
  intro n
  induction n with
  | zero =>
    intro t l h
    cases t with
    | tup ts => rw [T.depth] at l; omega
    | lst ts => rw [isFx] at h; cases h
    | dct ts => rw [isFx] at h; cases h
    | non => rw [eqv]
    | bl b => rw [eqv]; simp
    | int b => rw [eqv]; simp
    | str b => rw [eqv]; simp
    | rat b c => rw [eqv]; simp
  | succ n ih =>
    intro t l h
    cases t with
    | tup ts =>
      rw [isFx, isFxL_all] at h
      rw [T.depth] at l
      rw [eqv, eqvL_refl fun t ht => by
        obtain ⟨i, hi⟩ := List.getElem?_of_mem ht
        have := depthL_get hi
        exact ih (by omega) (h t ht)]
      simp
    | lst ts => rw [isFx] at h; cases h
    | dct ts => rw [isFx] at h; cases h
    | non => rw [eqv]
    | bl b => rw [eqv]; simp
    | int b => rw [eqv]; simp
    | str b => rw [eqv]; simp
    | rat b c => rw [eqv]; simp
/-- what is compared as the library compares, or as they are compared -/
theorem EqU.of_rc2 {X : Cx} {k : Nat} {H : Hp} {v v' : V} {b : Bool} (hfl : ∀ x t, ¬ RelV v (.float x t)) (h0 : ∀ u u', RelV v u → RelV v' u' → (u == u') = true → b = true) (h : RcU X k H v v' b) : EqU X k H v v' b := by
  intro A E pins σ s H1 u u' Q at_ I hs r1 r2 hq
  unfold eqBool
  refine wpAny_holding ?_
  refine wpAny_ite_split (fun hab => ?_) (fun _ => ?_)
  · have e := h0 u u' r1 r2 hab
    subst e
    exact wpAny_bind (wpAny_rule (wpAny_pure (hq s H1 I (Same.refl _))))
  · split
    · next heq => 
      obtain rfl : u = _ := congrArg Prod.fst heq
      exact absurd r1 (hfl _ _)
    · exact wpAny_bind (h A E pins σ s H1 _ _ _ at_ I hs r1 r2 fun s' H2 I2 hs2 => wpAny_truthy_bool (hq s' H2 I2 hs2))
/-- no float -/
theorem nf_ref {a : Addr} (x : UInt64) (t : Tok) : ¬ RelV (.ref a) (.float x t) := fun r => nomatch (show Value.float x t = .ref a from r)
theorem nf_int {n : Int} (x : UInt64) (t : Tok) : ¬ RelV (.int n) (.float x t) := fun ⟨_, r⟩ => nomatch r
theorem nf_str {n : Str} (x : UInt64) (t : Tok) : ¬ RelV (.str n) (.float x t) := fun ⟨_, r⟩ => nomatch r
theorem nf_bl {n : Bool} (x : UInt64) (t : Tok) : ¬ RelV (.bl n) (.float x t) := fun r => nomatch (show Value.float x t = .bool n from r)
theorem nf_non (x : UInt64) (t : Tok) : ¬ RelV .non (.float x t) := fun r => nomatch (show Value.float x t = .none from r)
/-- what the written part says of == of Ratio -/
structure EqX (K : PySem.W.Frag) (C : Addr) : Prop where
  nf : PySem.W.notFirst K C (.ref C) = true
  nt : ∀ T ∈ ["NoneType", "bool", "int", "str", "tuple"], PySem.W.notFirst K C (.type T) = true
  sub : ∀ T ∈ ["NoneType", "bool", "int", "str", "tuple"], PySem.W.subIn K (.ref C) (.type T) = some false
theorem RcU.more {X : Cx} {j k : Nat} {H : Hp} {v v' : V} {b : Bool} (r : RcU X j H v v' b) (h : j ≤ k) : RcU X k H v v' b :=
  fun A E pins σ s H1 u u' Q a I hs r1 r2 hq => r A E pins σ s H1 u u' Q (a.less h) I hs r1 r2 hq
theorem tup_is {X : Cx} {a : Addr} {xs : List V} {pins : List (Addr × Obj)} {σ : L2.St} {s : Shared} {H1 : Hp} (I : Inv X pins σ H1 s) (h : H1 a = some (.tup xs)) : ∃ its, s.heap.IsTuple a its := by
  obtain ⟨o, its, n, h1, h2, h3, r⟩ := tup_at I h
  exact ⟨_, o, h1, h2, n, h3⟩
section
variable {X : Cx} {C f : Addr} {fd : FuncData} {k : Nat} {H : Hp}
/-- items, one by one, as long as both go -/
theorem eql_of {k : Nat} : ∀ {vs vs' : List V} {ts us : List T}, vs.length = ts.length → vs'.length = us.length → (∀ (i j : Nat) (v v' : V) (t u : T), vs[i]? = some v → ts[i]? = some t → vs'[j]? = some v' → us[j]? = some u → EqU X k H v v' (eqv t u)) → EqL X k H vs vs' (eqvL ts us) := by
  intro vs
  induction vs with
  | nil =>
    intro vs' ts us l l' h
    obtain rfl : ts = [] := List.length_eq_zero_iff.mp l.symm
    rw [eqvL]
    · exact .nilL
    · intro a b c d e; cases e
  | cons v vs ih =>
    intro vs' ts us l l' h
    cases ts with
    | nil => simp at l
    | cons t ts =>
      cases vs' with
      | nil =>
        obtain rfl : us = [] := List.length_eq_zero_iff.mp l'.symm
        rw [eqvL]
        · exact .nilR
        · intro a b c d e e2; cases e2
      | cons v' vs' =>
        cases us with
        | nil => simp at l'
        | cons u us =>
          rw [eqvL]
          have h0 := h 0 0 v v' t u rfl rfl rfl rfl
          cases e : eqv t u with
          | false => rw [e] at h0; exact .no h0
          | true =>
            rw [e] at h0
            exact .yes h0 (ih (by simpa using l) (by simpa using l') fun i j v v' t u e1 e2 e3 e4 => h (i + 1) (j + 1) v v' t u (by simpa using e1) (by simpa using e2) (by simpa using e3) (by simpa using e4))
theorem Tr.eqU (R : EqOf X C f fd k (spEq X.K C)) (F : RatF X.K C) (EX : EqX X.K C) : ∀ {d : Nat} {v v' : V} {t t' : T}, Tr C H d v t → Tr C H d v' t' → isFx t = true → isFx t' = true → EqU X (k + d) H v v' (eqv t t') := by
  intro d
  induction d using Nat.strongRecOn with
  | _ d ih =>
  intro v v' t t' h h' f f'
  have i := h.inv
  have i' := h'.inv
  have own : ∀ {a : Addr} {x y : Int} {dx : Addr} {w : V} {b : Bool}, H a = some (.ins C dx (fsR x y)) → (∀ H1, Same H H1 → ∀ Q : VK, Q (.bl b) H1 → ((∃ a2 t2 b2, w = .ref a2 ∧ RatAt C H1 a2 t2 b2 ∧ Q (.bl (decide (x = t2) && decide (y = b2))) H1) ∨ (∃ n, w = .int n ∧ Q (.bl (decide (y = 1) && decide (x = n))) H1) ∨ (∃ T, Odd H1 w T ∧ Q (.bl false) H1))) →
      ∀ H1, Same H H1 → spEq X.K C [.ref a, w] H1 (fun v H2 => v = .bl b ∧ Same H1 H2) E0 := by
    intro a x y dx w b g p H1 hs
    exact ⟨a, w, x, y, rfl, ⟨dx, hs _ _ g⟩, p H1 hs (fun v H2 => v = .bl b ∧ Same H1 H2) ⟨rfl, Same.refl _⟩⟩
  cases t with
  | non =>
    obtain rfl : v = V.non := i
    cases t' with
    | non =>
      obtain rfl : v' = V.non := i'
      rw [eqv]
      · exact .of_at fun A sh H1 pins σ u u' hu I hs r1 r2 => by obtain rfl : u = Value.none := r1; obtain rfl : u' = Value.none := r2; exact EqAt.same _
    | bl b' =>
      obtain rfl : v' = V.bl _ := i'
      rw [eqv]
      · exact .of_at fun A sh H1 pins σ u u' hu I hs r1 r2 => by obtain rfl : u = Value.none := r1; obtain rfl : u' = Value.bool _ := r2; exact EqAt.none_bool b'
      all_goals (intros; contradiction)
    | int n' =>
      obtain rfl : v' = V.int _ := i'
      rw [eqv]
      · exact .of_at fun A sh H1 pins σ u u' hu I hs r1 r2 => by obtain rfl : u = Value.none := r1; obtain ⟨tr2, rfl⟩ := r2; exact EqAt.none_int n' tr2
      all_goals (intros; contradiction)
    | str s' =>
      obtain rfl : v' = V.str _ := i'
      rw [eqv]
      · exact .of_at fun A sh H1 pins σ u u' hu I hs r1 r2 => by obtain rfl : u = Value.none := r1; obtain ⟨tr2, rfl⟩ := r2; exact EqAt.none_str s' tr2
      all_goals (intros; contradiction)
    | rat x' y' =>
      obtain ⟨a', dx', rfl, g'⟩ := i'
      rw [eqv]
      · exact (EqU.of_rc2 nf_non (fun u u' r1 r2 z => by obtain rfl : u = Value.none := r1; obtain rfl : u' = Value.ref a' := r2; cases beq_iff_eq.mp z) (RcU.non_own R g' (EX.sub "NoneType" (by decide)) (own g' fun H1 hs Q q => .inr (.inr ⟨_, .non, q⟩)))).more (by omega)
      all_goals (intros; contradiction)
    | tup us =>
      obtain ⟨a', vs', rfl, g', e', he', al'⟩ := i'
      rw [eqv]
      · exact .of_at fun A sh H1 pins σ u u' hu I hs r1 r2 => by obtain rfl : u = Value.none := r1; obtain rfl : u' = Value.ref a' := r2; obtain ⟨its, q⟩ := tup_is I (hs _ _ g'); exact EqAt.none_tuple q hu
      all_goals (intros; contradiction)
    | lst ts' => rw [isFx] at f'; cases f'
    | dct ts' => rw [isFx] at f'; cases f'
  | bl b =>
    obtain rfl : v = V.bl _ := i
    cases t' with
    | non =>
      obtain rfl : v' = V.non := i'
      rw [eqv]
      · exact .of_at fun A sh H1 pins σ u u' hu I hs r1 r2 => by obtain rfl : u = Value.bool _ := r1; obtain rfl : u' = Value.none := r2; exact EqAt.bool_none b
      all_goals (intros; contradiction)
    | bl b' =>
      obtain rfl : v' = V.bl _ := i'
      rw [eqv]
      · exact .of_at fun A sh H1 pins σ u u' hu I hs r1 r2 => by obtain rfl : u = Value.bool _ := r1; obtain rfl : u' = Value.bool _ := r2; exact EqAt.bool_bool b b'
    | int n' =>
      obtain rfl : v' = V.int _ := i'
      rw [eqv]
      · exact .of_at fun A sh H1 pins σ u u' hu I hs r1 r2 => by obtain rfl : u = Value.bool _ := r1; obtain ⟨tr2, rfl⟩ := r2; exact EqAt.bool_int b n' tr2
    | str s' =>
      obtain rfl : v' = V.str _ := i'
      rw [eqv]
      · exact .of_at fun A sh H1 pins σ u u' hu I hs r1 r2 => by obtain rfl : u = Value.bool _ := r1; obtain ⟨tr2, rfl⟩ := r2; exact EqAt.bool_str b s' tr2
      all_goals (intros; contradiction)
    | rat x' y' =>
      obtain ⟨a', dx', rfl, g'⟩ := i'
      rw [eqv]
      · exact (EqU.of_rc2 nf_bl (fun u u' r1 r2 z => by obtain rfl : u = Value.bool _ := r1; obtain rfl : u' = Value.ref a' := r2; cases beq_iff_eq.mp z) (RcU.bl_own R g' (EX.sub "bool" (by decide)) (own g' fun H1 hs Q q => .inr (.inr ⟨_, (.bl _), q⟩)))).more (by omega)
      all_goals (intros; contradiction)
    | tup us =>
      obtain ⟨a', vs', rfl, g', e', he', al'⟩ := i'
      rw [eqv]
      · exact .of_at fun A sh H1 pins σ u u' hu I hs r1 r2 => by obtain rfl : u = Value.bool _ := r1; obtain rfl : u' = Value.ref a' := r2; obtain ⟨its, q⟩ := tup_is I (hs _ _ g'); exact EqAt.bool_tuple b q hu
      all_goals (intros; contradiction)
    | lst ts' => rw [isFx] at f'; cases f'
    | dct ts' => rw [isFx] at f'; cases f'
  | int n =>
    obtain rfl : v = V.int _ := i
    cases t' with
    | non =>
      obtain rfl : v' = V.non := i'
      rw [eqv]
      · exact .of_at fun A sh H1 pins σ u u' hu I hs r1 r2 => by obtain ⟨tr1, rfl⟩ := r1; obtain rfl : u' = Value.none := r2; exact EqAt.int_none n tr1
      all_goals (intros; contradiction)
    | bl b' =>
      obtain rfl : v' = V.bl _ := i'
      rw [eqv]
      · exact .of_at fun A sh H1 pins σ u u' hu I hs r1 r2 => by obtain ⟨tr1, rfl⟩ := r1; obtain rfl : u' = Value.bool _ := r2; exact EqAt.int_bool n tr1 b'
    | int n' =>
      obtain rfl : v' = V.int _ := i'
      rw [eqv]
      · exact .of_at fun A sh H1 pins σ u u' hu I hs r1 r2 => by obtain ⟨tr1, rfl⟩ := r1; obtain ⟨tr2, rfl⟩ := r2; exact EqAt.int_int n tr1 n' tr2
    | str s' =>
      obtain rfl : v' = V.str _ := i'
      rw [eqv]
      · exact .of_at fun A sh H1 pins σ u u' hu I hs r1 r2 => by obtain ⟨tr1, rfl⟩ := r1; obtain ⟨tr2, rfl⟩ := r2; exact EqAt.int_str n tr1 s' tr2
      all_goals (intros; contradiction)
    | rat x' y' =>
      obtain ⟨a', dx', rfl, g'⟩ := i'
      rw [eqv]
      · exact (EqU.of_rc2 nf_int (fun u u' r1 r2 z => by obtain ⟨tr1, rfl⟩ := r1; obtain rfl : u' = Value.ref a' := r2; cases beq_iff_eq.mp z) (RcU.int_own R g' (EX.sub "int" (by decide)) (own g' fun H1 hs Q q => .inr (.inl ⟨_, rfl, q⟩)))).more (by omega)
    | tup us =>
      obtain ⟨a', vs', rfl, g', e', he', al'⟩ := i'
      rw [eqv]
      · exact .of_at fun A sh H1 pins σ u u' hu I hs r1 r2 => by obtain ⟨tr1, rfl⟩ := r1; obtain rfl : u' = Value.ref a' := r2; obtain ⟨its, q⟩ := tup_is I (hs _ _ g'); exact EqAt.int_tuple n tr1 q hu
      all_goals (intros; contradiction)
    | lst ts' => rw [isFx] at f'; cases f'
    | dct ts' => rw [isFx] at f'; cases f'
  | str s =>
    obtain rfl : v = V.str _ := i
    cases t' with
    | non =>
      obtain rfl : v' = V.non := i'
      rw [eqv]
      · exact .of_at fun A sh H1 pins σ u u' hu I hs r1 r2 => by obtain ⟨tr1, rfl⟩ := r1; obtain rfl : u' = Value.none := r2; exact EqAt.str_none s tr1
      all_goals (intros; contradiction)
    | bl b' =>
      obtain rfl : v' = V.bl _ := i'
      rw [eqv]
      · exact .of_at fun A sh H1 pins σ u u' hu I hs r1 r2 => by obtain ⟨tr1, rfl⟩ := r1; obtain rfl : u' = Value.bool _ := r2; exact EqAt.str_bool s tr1 b'
      all_goals (intros; contradiction)
    | int n' =>
      obtain rfl : v' = V.int _ := i'
      rw [eqv]
      · exact .of_at fun A sh H1 pins σ u u' hu I hs r1 r2 => by obtain ⟨tr1, rfl⟩ := r1; obtain ⟨tr2, rfl⟩ := r2; exact EqAt.str_int s tr1 n' tr2
      all_goals (intros; contradiction)
    | str s' =>
      obtain rfl : v' = V.str _ := i'
      rw [eqv]
      · exact .of_at fun A sh H1 pins σ u u' hu I hs r1 r2 => by obtain ⟨tr1, rfl⟩ := r1; obtain ⟨tr2, rfl⟩ := r2; exact EqAt.str_str s tr1 s' tr2
    | rat x' y' =>
      obtain ⟨a', dx', rfl, g'⟩ := i'
      rw [eqv]
      · exact (EqU.of_rc2 nf_str (fun u u' r1 r2 z => by obtain ⟨tr1, rfl⟩ := r1; obtain rfl : u' = Value.ref a' := r2; cases beq_iff_eq.mp z) (RcU.str_own R g' (EX.sub "str" (by decide)) (own g' fun H1 hs Q q => .inr (.inr ⟨_, (.str _), q⟩)))).more (by omega)
      all_goals (intros; contradiction)
    | tup us =>
      obtain ⟨a', vs', rfl, g', e', he', al'⟩ := i'
      rw [eqv]
      · exact .of_at fun A sh H1 pins σ u u' hu I hs r1 r2 => by obtain ⟨tr1, rfl⟩ := r1; obtain rfl : u' = Value.ref a' := r2; obtain ⟨its, q⟩ := tup_is I (hs _ _ g'); exact EqAt.str_tuple s tr1 q hu
      all_goals (intros; contradiction)
    | lst ts' => rw [isFx] at f'; cases f'
    | dct ts' => rw [isFx] at f'; cases f'
  | rat x y =>
    obtain ⟨a, dx, rfl, g⟩ := i
    cases t' with
    | non =>
      obtain rfl : v' = V.non := i'
      rw [eqv]
      · exact (EqU.of_rc2 nf_ref (fun u u' r1 r2 z => by obtain rfl : u = Value.ref a := r1; obtain rfl : u' = Value.none := r2; cases beq_iff_eq.mp z) (RcU.ownL R g (fun H1 hs => .non) (EX.nt "NoneType" (by decide)) (own g fun H1 hs Q q => .inr (.inr ⟨_, .non, q⟩)))).more (by omega)
      all_goals (intros; contradiction)
    | bl b' =>
      obtain rfl : v' = V.bl _ := i'
      rw [eqv]
      · exact (EqU.of_rc2 nf_ref (fun u u' r1 r2 z => by obtain rfl : u = Value.ref a := r1; obtain rfl : u' = Value.bool _ := r2; cases beq_iff_eq.mp z) (RcU.ownL R g (fun H1 hs => .bl _) (EX.nt "bool" (by decide)) (own g fun H1 hs Q q => .inr (.inr ⟨_, (.bl _), q⟩)))).more (by omega)
      all_goals (intros; contradiction)
    | int n' =>
      obtain rfl : v' = V.int _ := i'
      rw [eqv]
      · exact (EqU.of_rc2 nf_ref (fun u u' r1 r2 z => by obtain rfl : u = Value.ref a := r1; obtain ⟨tr2, rfl⟩ := r2; cases beq_iff_eq.mp z) (RcU.ownL R g (fun H1 hs => .int _) (EX.nt "int" (by decide)) (own g fun H1 hs Q q => .inr (.inl ⟨_, rfl, q⟩)))).more (by omega)
    | str s' =>
      obtain rfl : v' = V.str _ := i'
      rw [eqv]
      · exact (EqU.of_rc2 nf_ref (fun u u' r1 r2 z => by obtain rfl : u = Value.ref a := r1; obtain ⟨tr2, rfl⟩ := r2; cases beq_iff_eq.mp z) (RcU.ownL R g (fun H1 hs => .str _) (EX.nt "str" (by decide)) (own g fun H1 hs Q q => .inr (.inr ⟨_, (.str _), q⟩)))).more (by omega)
      all_goals (intros; contradiction)
    | rat x' y' =>
      obtain ⟨a', dx', rfl, g'⟩ := i'
      rw [eqv]
      · exact (EqU.of_rc2 nf_ref (fun u u' r1 r2 z => by obtain rfl : u = Value.ref a := r1; obtain rfl : u' = Value.ref a' := r2; cases beq_iff_eq.mp z; rw [g] at g'; injection g' with g'; injection g' with _ _ g'; obtain ⟨r1, r2⟩ := fsR_inj g'; rw [r1, r2]; simp) (RcU.ownL R g (fun H1 hs => RatAt.ty F ⟨dx', hs _ _ g'⟩) EX.nf (own g fun H1 hs Q q => .inl ⟨_, _, _, rfl, ⟨dx', hs _ _ g'⟩, q⟩))).more (by omega)
    | tup us =>
      obtain ⟨a', vs', rfl, g', e', he', al'⟩ := i'
      rw [eqv]
      · exact (EqU.of_rc2 nf_ref (fun u u' r1 r2 z => by obtain rfl : u = Value.ref a := r1; obtain rfl : u' = Value.ref a' := r2; cases beq_iff_eq.mp z; rw [g] at g'; cases g') (RcU.ownL R g (fun H1 hs => .tup (hs _ _ g')) (EX.nt "tuple" (by decide)) (own g fun H1 hs Q q => .inr (.inr ⟨_, .tup (hs _ _ g'), q⟩)))).more (by omega)
      all_goals (intros; contradiction)
    | lst ts' => rw [isFx] at f'; cases f'
    | dct ts' => rw [isFx] at f'; cases f'
  | tup ts =>
    obtain ⟨a, vs, rfl, g, e, he, al⟩ := i
    cases t' with
    | non =>
      obtain rfl : v' = V.non := i'
      rw [eqv]
      · exact .of_at fun A sh H1 pins σ u u' hu I hs r1 r2 => by obtain rfl : u = Value.ref a := r1; obtain rfl : u' = Value.none := r2; obtain ⟨its, q⟩ := tup_is I (hs _ _ g); exact EqAt.tuple_none q hu
      all_goals (intros; contradiction)
    | bl b' =>
      obtain rfl : v' = V.bl _ := i'
      rw [eqv]
      · exact .of_at fun A sh H1 pins σ u u' hu I hs r1 r2 => by obtain rfl : u = Value.ref a := r1; obtain rfl : u' = Value.bool _ := r2; obtain ⟨its, q⟩ := tup_is I (hs _ _ g); exact EqAt.tuple_bool b' q hu
      all_goals (intros; contradiction)
    | int n' =>
      obtain rfl : v' = V.int _ := i'
      rw [eqv]
      · exact .of_at fun A sh H1 pins σ u u' hu I hs r1 r2 => by obtain rfl : u = Value.ref a := r1; obtain ⟨tr2, rfl⟩ := r2; obtain ⟨its, q⟩ := tup_is I (hs _ _ g); exact EqAt.tuple_int n' tr2 q hu
      all_goals (intros; contradiction)
    | str s' =>
      obtain rfl : v' = V.str _ := i'
      rw [eqv]
      · exact .of_at fun A sh H1 pins σ u u' hu I hs r1 r2 => by obtain rfl : u = Value.ref a := r1; obtain ⟨tr2, rfl⟩ := r2; obtain ⟨its, q⟩ := tup_is I (hs _ _ g); exact EqAt.tuple_str s' tr2 q hu
      all_goals (intros; contradiction)
    | rat x' y' =>
      obtain ⟨a', dx', rfl, g'⟩ := i'
      rw [eqv]
      · exact (EqU.of_rc2 nf_ref (fun u u' r1 r2 z => by obtain rfl : u = Value.ref a := r1; obtain rfl : u' = Value.ref a' := r2; cases beq_iff_eq.mp z; rw [g] at g'; cases g') (RcU.tup_own R g' g (EX.sub "tuple" (by decide)) (own g' fun H1 hs Q q => .inr (.inr ⟨_, .tup (hs _ _ g), q⟩)))).more (by omega)
      all_goals (intros; contradiction)
    | tup us =>
      obtain ⟨a', vs', rfl, g', e', he', al'⟩ := i'
      rw [eqv]
      · rw [isFx, isFxL_all] at f f'
        have el : EqL X (k + e) H vs vs' (eqvL ts us) := eql_of al.1 al'.1 fun i j w w' t u e1 e2 e3 e4 => by
          have z' := al'.2 j w' u e3 e4
          rw [show e' = e by omega] at z'
          exact ih e (by omega) (al.2 i w t e1 e2) z' (f t (List.mem_of_getElem? e2)) (f' u (List.mem_of_getElem? e4))
        have r := RcU.tup el g g'
        rw [al.1, al'.1] at r
        refine (EqU.of_rc2 nf_ref (fun u u' r1 r2 z => ?_) r).more (by omega)
        obtain rfl : u = Value.ref a := r1
        obtain rfl : u' = Value.ref a' := r2
        cases beq_iff_eq.mp z
        have e := h.det h'
        injection e with e
        subst e
        have := eqv_refl (Nat.le_refl _) (show isFx (.tup ts) = true by rw [isFx, isFxL_all]; exact f)
        rw [eqv] at this
        exact this
    | lst ts' => rw [isFx] at f'; cases f'
    | dct ts' => rw [isFx] at f'; cases f'
  | lst ts => rw [isFx] at f; cases f
  | dct ts => rw [isFx] at f; cases f
end
end K2

/-! Paper, Denial: made. -/
namespace K2
open PySem PySem.Spec PyProof.Rows L2 K1 LamX

/-- fixed, called on trees of at most nine levels -/
structure HasFix9 (P : Program) (w : World) (K : PySem.W.Frag) (mg : Str → Option Value) (base : Heap) (C : Addr) : Prop where
  h : ∃ f fd, mg "fixed" = some (.ref f) ∧ PySem.W.keepIn K (.ref f) = true ∧ Binds K fd ["value"] [] ∧ FnOk P w K mg base CX0 11 f fd ["value"] (spFix C 9)
theorem fix9 {C : Addr} {H : Hp} {d : Nat} {v : V} {t : T} {Q : VK} {E : XK} (r : Tr C H d v t) (s : Sml d t) (hd : d ≤ 9) (q : ∀ v' H', Same H H' → Tr C H' (fix t).depth v' (fix t) → Q v' H') : spFix C 9 [v] H Q E :=
  ⟨v, t, rfl, r.mono hd, s.mono hd, q⟩
/-- what the written part says of a class of papers -/
structure PapC (K : PySem.W.Frag) (CP : Addr) : Prop where
  cl : Cls K CP
  nW : NoAttr K CP "word"
  nP : NoAttr K CP "parts"
  ha : PySem.W.findIn K (.ref CP) "__class__" = some (some (.builtin "object.__class__"))
  hn : PySem.W.specialIn K (.builtin "object.__class__") "__get__" = some (some (.builtin "getset_descriptor.__get__"))
  ht : PySem.W.takesIn K (.builtin "object.__class__") = some true
  hm : PySem.W.mroIn K CP (.type "object") = some true
theorem wp_ne : ¬ (("word" : Str) = "parts") := by decide +kernel
def fsW (wd : Str) : List (Str × V) := putF "word" (.str wd) []
def fsP (wd : Str) (v : V) : List (Str × V) := putF "parts" v (fsW wd)
theorem fsP_word (wd : Str) (v : V) : (fsP wd v).lookup ("word" : Str) = some (.str wd) := by unfold fsP fsW; rw [lookup_putF, if_neg wp_ne, lookup_putF, if_pos rfl]
theorem fsP_parts (wd : Str) (v : V) : (fsP wd v).lookup ("parts" : Str) = some v := by unfold fsP; rw [lookup_putF, if_pos rfl]
/-- a paper of the class at CP stands at a: its word, its parts -/
def PapAt (C CP : Addr) (H : Hp) (a : Addr) (wd : Str) (t : T) : Prop := ∃ dx fs v, H a = some (.ins CP dx fs) ∧ fs.lookup ("word" : Str) = some (.str wd) ∧ fs.lookup ("parts" : Str) = some v ∧ Tr C H t.depth v t ∧ isFx t = true
theorem PapAt.same {C CP : Addr} {H H' : Hp} {a : Addr} {wd : Str} {t : T} (s : Same H H') (h : PapAt C CP H a wd t) : PapAt C CP H' a wd t :=
  let ⟨dx, fs, v, h1, h2, h3, h4, h5⟩ := h; ⟨dx, fs, v, s _ _ h1, h2, h3, h4.same s, h5⟩
theorem PapAt.ty {K : PySem.W.Frag} {C CP : Addr} {H : Hp} {a : Addr} {wd : Str} {t : T} (F : PapC K CP) (h : PapAt C CP H a wd t) : TyOf K H (.ref a) (.ref CP) := let ⟨_, _, _, h, _⟩ := h; .ins h F.cl F.ha F.hn F.ht F.hm
/-- __init__(self, word, *parts): the parts as fixed gives them -/
def spPI (C CP : Addr) : Sp := fun vs H Q _ => ∃ (p dx : Addr) (wd : Str) (q : Addr) (d : Nat) (t : T), vs = [.ref p, .str wd, .ref q] ∧ H p = some (.ins CP dx []) ∧ Tr C (hide p H) d (.ref q) t ∧ Sml d t ∧ d ≤ 9 ∧
  ∀ v' H', Same (hide p H) H' → H' p = some (.ins CP dx (fsP wd v')) → Tr C H' (fix t).depth v' (fix t) → Q .non H'
theorem hide_hide {p : Addr} {H : Hp} {o : HO} : hide p (upd H p o) = hide p H := by
  funext b
  unfold hide
  by_cases e : b = p
  · rw [if_pos e, if_pos e]
  · rw [if_neg e, if_neg e, upd_ne e]
/-- a tree stands without an instance of another class -/
theorem Tr.offI {C p CP dx : Addr} {H : Hp} {fs : List (Str × V)} {d : Nat} {v : V} {t : T} (h : Tr C H d v t) (f : isFx t = true) (e : H p = some (.ins CP dx fs)) (ne : CP ≠ C) : Tr C (hide p H) d v t := by
  induction d generalizing v t with
  | zero =>
    cases t with
    | rat x y =>
      obtain ⟨a, ea, dx', g⟩ := id h
      refine ⟨a, ea, dx', ?_⟩
      rw [hide_ne]
      · exact g
      · rintro rfl; rw [e] at g; cases g; exact ne rfl
    | lst ts => exact h.elim
    | tup ts => exact h.elim
    | dct ts => exact h.elim
    | _ => exact h
  | succ d ih =>
    cases t with
    | rat x y =>
      obtain ⟨a, ea, dx', g⟩ := id h
      refine ⟨a, ea, dx', ?_⟩
      rw [hide_ne]
      · exact g
      · rintro rfl; rw [e] at g; cases g; exact ne rfl
    | lst ts => rw [isFx] at f; cases f
    | dct ts => rw [isFx] at f; cases f
    | tup ts =>
      rw [isFx, isFxL_all] at f
      obtain ⟨a, vs, ea, g, r⟩ := id h
      refine ⟨a, vs, ea, ?_, r.1, fun i v t e1 e2 => ih (r.2 i v t e1 e2) (f t (List.mem_of_getElem? e2))⟩
      rw [hide_ne]
      · exact g
      · rintro rfl; rw [e] at g; cases g
    | _ => exact h
theorem Tr.putI {C p CP dx : Addr} {H : Hp} {fs : List (Str × V)} {o : HO} {d : Nat} {v : V} {t : T} (h : Tr C H d v t) (f : isFx t = true) (e : H p = some (.ins CP dx fs)) (ne : CP ≠ C) : Tr C (upd H p o) d v t := (h.offI f e ne).same hide_upd
section
variable {P : Program} {w : World} {K : PySem.W.Frag} {mg : Str → Option Value} {base : Heap} {f C CP : Addr} {fd : FuncData}
def NPI : List Str := ["self", "word", "parts"]
theorem scPI : FnScope NPI (([("self" : Str), "word"] : List Str) ++ [("parts" : Str)]) (defScope sPInit) := ⟨rfl, rfl, rfl, by decide +kernel, rfl, by decide +kernel, by decide +kernel⟩
theorem scDI : FnScope NPI (([("self" : Str), "word"] : List Str) ++ [("parts" : Str)]) (defScope sDInit) := ⟨rfl, rfl, rfl, by decide +kernel, rfl, by decide +kernel, by decide +kernel⟩
theorem ok_pinit (B : PapC K CP) (ne : CP ≠ C) (HF : HasFix9 P w K mg base C) (F : DefAt K "__init__" "Paper.__init__" sPInit f fd) :
    FnR P w K mg base CX0 12 f (fun vs H Q E => ∃ ws rest, vs = ws ++ rest ∧ ws.length = 2 ∧ rest.length ≤ sizeLine ∧ ∀ p, H p = none → spPI C CP (ws ++ [V.ref p]) (upd H p (.tup rest)) Q E) := by
  obtain ⟨ff, fdf, mF, kF, bF, GF⟩ := HF.h
  obtain ⟨oc, od, dV, kV, doc, pm, an, cdv, ct, osl, rfl, lk, hcd, hD, _⟩ := F.ex
  have hD : dV = .none := hD.elim (·.2) fun z => absurd rfl z.1
  subst hD
  refine StX.fn_star (ps := ["self", "word"]) (pv := "parts") (N := NPI) (k := 11) lk hcd scPI StX.cxUp_none (fun us rest hl => match us, hl with | [_, _], _ => by cases rest <;> rfl) (fun A outer s H vs Q E hr ⟨p, dx, wd, q, d, t, e, hp, tr, sm, hd, k⟩ => ?_)
  subst e
  refine ⟨_, PSs.nox (pss_cons (ps_fld (pv 0) (pv 1) rfl) (pss_one (ps_fld (pv 0) (pe_call GF hr rfl mF kF bF .nil pass0 (pa_cons (pv 2) pa_nil)) rfl))), ?_⟩
  refine ⟨_, rfl, _, rfl, p, CP, dx, [], rfl, hp, B.cl, B.nW, (by show 0 < 1000; decide), ?_⟩
  refine ⟨_, rfl, fix9 (E := E0) (tr.same hide_upd) sm hd fun v' H' s1 r => ?_⟩
  have h1 : H' p = some (.ins CP dx (fsW wd)) := s1 _ _ upd_same
  refine ⟨_, rfl, p, CP, dx, _, rfl, h1, B.cl, B.nP, (by show 1 < 1000; decide), ?_⟩
  refine k v' _ (fun b o e => ?_) upd_same (r.putI (fix_ok sm).1 h1 ne)
  obtain ⟨e1, e2⟩ := hide_of e
  rw [upd_ne e1]
  exact s1 _ _ (by rw [upd_ne e1]; exact e2)
theorem ok_dinit (B : PapC K CP) (ne : CP ≠ C) (HF : HasFix9 P w K mg base C) (F : DefAt K "__init__" "Denial.__init__" sDInit f fd) :
    FnR P w K mg base CX0 12 f (fun vs H Q E => ∃ ws rest, vs = ws ++ rest ∧ ws.length = 2 ∧ rest.length ≤ sizeLine ∧ ∀ p, H p = none → spPI C CP (ws ++ [V.ref p]) (upd H p (.tup rest)) Q E) := by
  obtain ⟨ff, fdf, mF, kF, bF, GF⟩ := HF.h
  obtain ⟨oc, od, dV, kV, doc, pm, an, cdv, ct, osl, rfl, lk, hcd, hD, _⟩ := F.ex
  have hD : dV = .none := hD.elim (·.2) fun z => absurd rfl z.1
  subst hD
  refine StX.fn_star (ps := ["self", "word"]) (pv := "parts") (N := NPI) (k := 11) lk hcd scDI StX.cxUp_none (fun us rest hl => match us, hl with | [_, _], _ => by cases rest <;> rfl) (fun A outer s H vs Q E hr ⟨p, dx, wd, q, d, t, e, hp, tr, sm, hd, k⟩ => ?_)
  subst e
  refine ⟨_, PSs.nox (pss_cons (ps_fld (pv 0) (pv 1) rfl) (pss_one (ps_fld (pv 0) (pe_call GF hr rfl mF kF bF .nil pass0 (pa_cons (pv 2) pa_nil)) rfl))), ?_⟩
  refine ⟨_, rfl, _, rfl, p, CP, dx, [], rfl, hp, B.cl, B.nW, (by show 0 < 1000; decide), ?_⟩
  refine ⟨_, rfl, fix9 (E := E0) (tr.same hide_upd) sm hd fun v' H' s1 r => ?_⟩
  have h1 : H' p = some (.ins CP dx (fsW wd)) := s1 _ _ upd_same
  refine ⟨_, rfl, p, CP, dx, _, rfl, h1, B.cl, B.nP, (by show 1 < 1000; decide), ?_⟩
  refine k v' _ (fun b o e => ?_) upd_same (r.putI (fix_ok sm).1 h1 ne)
  obtain ⟨e1, e2⟩ := hide_of e
  rw [upd_ne e1]
  exact s1 _ _ (by rw [upd_ne e1]; exact e2)
end
end K2

/-! == of papers, their truth. -/
namespace K2
open PySem PySem.Spec PyProof.Rows L2 K1 LamX

theorem eqv_depth : ∀ {n : Nat} {a b : T}, a.depth ≤ n → isFx a = true → isFx b = true → eqv a b = true → a.depth = b.depth := by
  intro n
  induction n with
  | zero =>
    intro a b l fa fb h
    cases a <;> cases b <;> first
      | rfl
      | (rw [isFx] at fa; cases fa; done)
      | (rw [isFx] at fb; cases fb; done)
      | (rw [T.depth] at l; omega)
      | (rw [eqv] at h <;> first | (cases h; done) | (intros; contradiction))
  | succ n ih =>
    intro a b l fa fb h
    cases a <;> cases b <;> first
      | rfl
      | (rw [isFx] at fa; cases fa; done)
      | (rw [isFx] at fb; cases fb; done)
      | skip
    case tup.tup ts us =>
      rw [isFx, isFxL_all] at fa fb
      rw [T.depth] at l
      rw [eqv, Bool.and_eq_true] at h
      obtain ⟨h1, h2⟩ := h
      have h2 : ts.length = us.length := eq_of_beq h2
      rw [T.depth, T.depth]
      refine congrArg (· + 1) ?_
      have key : ∀ (ts us : List T), (∀ t ∈ ts, isFx t = true) → (∀ t ∈ us, isFx t = true) → eqvL ts us = true → ts.length = us.length → depthL ts ≤ n → depthL ts = depthL us := by
        intro ts
        induction ts with
        | nil =>
          intro us _ _ _ h2 _
          obtain rfl : us = [] := List.length_eq_zero_iff.mp h2.symm
          rfl
        | cons t ts ih2 =>
          intro us fa fb h1 h2 l
          cases us with
          | nil => simp at h2
          | cons u us =>
            rw [eqvL, Bool.and_eq_true] at h1
            rw [depthL] at l
            rw [depthL, depthL, ih (by omega) (fa t (.head _)) (fb u (.head _)) h1.1, ih2 us (fun t ht => fa t (.tail _ ht)) (fun t ht => fb t (.tail _ ht)) h1.2 (by simpa using h2) (by omega)]
      exact key ts us fa fb h1 h2 (by omega)
    all_goals (rw [eqv] at h <;> first | (cases h; done) | (intros; contradiction))
/-- a value and what holds it differ -/
theorem eqv_in {g : T} (h : isFx g = true) : eqv (.tup [g]) (.tup [.tup [g, .int 0]]) = false := by
  rw [eqv, eqvL]
  cases e : eqv g (.tup [g, .int 0]) with
  | false => rfl
  | true =>
    have := eqv_depth (Nat.le_refl _) h (by rw [isFx, isFxL, isFxL, isFxL, h]; rfl) e
    rw [T.depth, depthL, depthL, depthL] at this
    have : (T.int 0).depth = 0 := rfl
    omega
theorem eqv_more {ts us : List T} (h : ts.length ≠ us.length) : eqv (.tup ts) (.tup us) = false := by
  rw [eqv, show (ts.length == us.length) = false from by simpa using h, Bool.and_false]

/-! classes told apart -/
theorem op_isC {X : Cx} : OpR X (compareOp .Is) (fun x y H Q => (∃ a b, x = V.ref a ∧ y = V.ref b ∧ (a = b ∨ (PySem.W.makesIn X.K a = true ∧ PySem.W.makesIn X.K b = true)) ∧ Q (.bl (decide (a = b))) H) ∨ ∃ (a : Addr) (T : String), x = .ref a ∧ y = .ty T ∧ Q (.bl false) H) :=
  op_both op_is_cls fun pins s σ H x y v u Q I rx ry ⟨a, T, e1, e2, q⟩ => by
    subst e1 e2
    obtain rfl : v = Value.ref a := rx
    obtain rfl : u = Value.type T := ry
    exact PySem.wpAny_is_other rfl (fun z => by cases z) ⟨.bl false, H, I, rfl, q⟩
/-- == of tuples of trees -/
def rEqTr (X : Cx) : R2 := fun x y H Q => ∃ (k : Nat) (b : Bool), RcU X k H x y b ∧ Room k X.A ∧ ∀ H', Same H H' → Q (.bl b) H'
theorem op_eqTr {X : Cx} : OpR X (compareOp .Eq) (rEqTr X) := by
  intro pins s σ H x y v u Q I rx ry ⟨k, b, h, hr, q⟩
  exact h X.A X.xe pins σ s H v u _ ⟨I.ok.frames, hr⟩ I (Same.refl _) rx ry fun s' H2 I2 hs => ⟨.bl b, H2, I2, rfl, q H2 hs⟩
theorem Tr.rcT {X : Cx} {C f : Addr} {fd : FuncData} {k : Nat} {H : Hp} (R : EqOf X C f fd k (spEq X.K C)) (F : RatF X.K C) (EX : EqX X.K C) {d : Nat} {v v' : V} {ts us : List T} (h : Tr C H d v (.tup ts)) (h' : Tr C H d v' (.tup us)) (f : isFx (.tup ts) = true) (f' : isFx (.tup us) = true) : RcU X (k + d) H v v' (eqv (.tup ts) (.tup us)) := by
  obtain ⟨a, vs, rfl, g, e, he, al⟩ := h.inv
  obtain ⟨a', vs', rfl, g', e', he', al'⟩ := h'.inv
  subst he
  obtain rfl : e' = e := by omega
  rw [isFx, isFxL_all] at f f'
  have el : EqL X (k + e') H vs vs' (eqvL ts us) := eql_of al.1 al'.1 fun i j w w' t u e1 e2 e3 e4 => Tr.eqU R F EX (al.2 i w t e1 e2) (al'.2 j w' u e3 e4) (f t (List.mem_of_getElem? e2)) (f' u (List.mem_of_getElem? e4))
  have r := RcU.tup el g g'
  rw [al.1, al'.1] at r
  rw [eqv]
  exact r

/-- Ratio's own == -/
structure HasREq (P : Program) (w : World) (K : PySem.W.Frag) (mg : Str → Option Value) (base : Heap) (C : Addr) : Prop where
  h : ∃ f fd, FnOk P w K mg base CX0 2 f fd ["self", "other"] (spEq K C) ∧ Binds K fd ["self", "other"] [] ∧ OwnM K C "__eq__" f
  e : EqX K C
def spPEq (K : PySem.W.Frag) (C : Addr) : Sp := fun vs H Q _ => ∃ (a : Addr) (y : V) (CP : Addr) (wd : Str) (ts : List T), vs = [.ref a, y] ∧ PapC K CP ∧ PySem.W.makesIn K CP = true ∧ PapAt C CP H a wd (.tup ts) ∧ (T.tup ts).depth ≤ 10 ∧
  ((∃ b CD dy fs, y = .ref b ∧ H b = some (.ins CD dy fs) ∧ PySem.W.makesIn K CD = true ∧ CP ≠ CD ∧ Q (.bl false) H) ∨ (∃ b xs, y = .ref b ∧ H b = some (.tup xs) ∧ Q (.bl false) H) ∨
   (∃ b wd' us, y = .ref b ∧ PapAt C CP H b wd' (.tup us) ∧ (T.tup us).depth ≤ 10 ∧ ∀ H', Same H H' → Q (.bl (decide (wd = wd') && eqv (.tup ts) (.tup us))) H'))
def spPBool (b : Bool) : Sp := fun vs H Q _ => ∃ (a : Addr), vs = [.ref a] ∧ Q (.bl b) H
section
variable {P : Program} {w : World} {K : PySem.W.Frag} {mg : Str → Option Value} {base : Heap} {f C CP : Addr} {fd : FuncData}
theorem scPEq : FnScope ["self", "other"] ["self", "other"] (defScope sPEq) := ⟨rfl, rfl, rfl, by decide +kernel, rfl, by decide +kernel, by decide +kernel⟩
theorem scDEq : FnScope ["self", "other"] ["self", "other"] (defScope sDEq) := ⟨rfl, rfl, rfl, by decide +kernel, rfl, by decide +kernel, by decide +kernel⟩
theorem ok_peq (G2 : Glob2 mg) (R : RatF K C) (RE : HasREq P w K mg base C) (F : DefAt K "__eq__" "Paper.__eq__" sPEq f fd) : FnOk P w K mg base CX0 14 f fd ["self", "other"] (spPEq K C) := by
  obtain ⟨fe, fde, FE, bE, ME⟩ := RE.h
  refine okN F scPEq (fun vs H Q E ⟨_, _, _, _, _, e, _⟩ => by rw [e]; rfl) (fun cdv A outer s H vs Q E hr ⟨a, y, CP, wd, ts, e, B, mk, pa, hd, h⟩ => ?_)
  subst e
  refine ⟨_, pss_one (ps_ret (pe_and (pe_cmpR op_isC (pe_callTy cr_type (by rfl) G2.type (by decide +kernel) (pa_cons (pv 0) pa_nil)) (pe_callTy (cr_both cr_type RZ.call_type4) (by rfl) G2.type (by decide +kernel) (pa_cons (pv 1) pa_nil)) (nomark _))
    (pe_and (pe_cmpR op_eq (pe_fld (pv 0) rfl) (pe_fld (pv 1) rfl) (nomark _)) (pe_one (pe_cmpR op_eqTr (pe_fld (pv 0) rfl) (pe_fld (pv 1) rfl) (nomark _)))))), ?_⟩
  obtain ⟨dx, fs, v, g, lw, lp, tr, fx⟩ := pa
  rcases h with ⟨b, CD, dy, gs, rfl, gb, mkd, ne, q⟩ | ⟨b, xs, rfl, gb, q⟩ | ⟨b, wd', us, rfl, pb, hd', q⟩
  · refine ⟨_, rfl, a, CP, dx, fs, rfl, g, _, rfl, .inl ⟨b, CD, dy, gs, rfl, gb, .inl ⟨CP, CD, rfl, rfl, .inr ⟨mk, mkd⟩, false, ?_, iteF q⟩⟩⟩
    rw [decide_eq_false ne]
  · exact ⟨_, rfl, a, CP, dx, fs, rfl, g, _, rfl, .inr ⟨_, "tuple", rfl, .tup gb, .inr ⟨CP, "tuple", rfl, rfl, false, rfl, iteF q⟩⟩⟩
  · obtain ⟨dy, gs, v', gb, lw', lp', tr', fx'⟩ := pb
    refine ⟨_, rfl, a, CP, dx, fs, rfl, g, _, rfl, .inl ⟨b, CP, dy, gs, rfl, gb, .inl ⟨CP, CP, rfl, rfl, .inl rfl, true, ?_, iteT ?_⟩⟩⟩
    · rw [decide_eq_true rfl]
    refine ⟨_, rfl, a, CP, dx, fs, _, rfl, g, B.cl, B.nW, lw, _, rfl, b, CP, dy, gs, _, rfl, gb, B.cl, B.nW, lw', ?_⟩
    have eo : EqOf (cxOf CX0 P w K mg base ["self", "other"] "Paper.__eq__" (defScope sPEq) f cdv A outer s H E).nox C fe fde 2 (spEq K C) := ⟨FE, bE, ME⟩
    have rc := Tr.rcT eo R RE.e (tr.mono hd) (tr'.mono hd') fx fx'
    have dw : decide (V.str wd = V.str wd') = decide (wd = wd') := by
      by_cases e : wd = wd'
      · rw [decide_eq_true e, decide_eq_true (by rw [e])]
      · rw [decide_eq_false e, decide_eq_false (fun z => e (V.str.inj z))]
    refine ⟨rfl, _, by rw [dw], ?_⟩
    by_cases e : wd = wd'
    · rw [decide_eq_true e] at q ⊢
      refine iteT ⟨_, rfl, a, CP, dx, fs, _, rfl, g, B.cl, B.nP, lp, _, rfl, b, CP, dy, gs, _, rfl, gb, B.cl, B.nP, lp', 2 + 10, _, rc, hr.mono (by decide), fun H' s1 => ?_⟩
      have z := q H' s1
      rw [Bool.true_and] at z
      exact z
    · rw [decide_eq_false e] at q ⊢
      exact iteF (by have z := q H (Same.refl _); rwa [Bool.false_and] at z)
theorem ok_deq (G2 : Glob2 mg) (R : RatF K C) (RE : HasREq P w K mg base C) (F : DefAt K "__eq__" "Denial.__eq__" sDEq f fd) : FnOk P w K mg base CX0 14 f fd ["self", "other"] (spPEq K C) := by
  obtain ⟨fe, fde, FE, bE, ME⟩ := RE.h
  refine okN F scDEq (fun vs H Q E ⟨_, _, _, _, _, e, _⟩ => by rw [e]; rfl) (fun cdv A outer s H vs Q E hr ⟨a, y, CP, wd, ts, e, B, mk, pa, hd, h⟩ => ?_)
  subst e
  refine ⟨_, pss_one (ps_ret (pe_and (pe_cmpR op_isC (pe_callTy cr_type (by rfl) G2.type (by decide +kernel) (pa_cons (pv 0) pa_nil)) (pe_callTy (cr_both cr_type RZ.call_type4) (by rfl) G2.type (by decide +kernel) (pa_cons (pv 1) pa_nil)) (nomark _))
    (pe_and (pe_cmpR op_eq (pe_fld (pv 0) rfl) (pe_fld (pv 1) rfl) (nomark _)) (pe_one (pe_cmpR op_eqTr (pe_fld (pv 0) rfl) (pe_fld (pv 1) rfl) (nomark _)))))), ?_⟩
  obtain ⟨dx, fs, v, g, lw, lp, tr, fx⟩ := pa
  rcases h with ⟨b, CD, dy, gs, rfl, gb, mkd, ne, q⟩ | ⟨b, xs, rfl, gb, q⟩ | ⟨b, wd', us, rfl, pb, hd', q⟩
  · refine ⟨_, rfl, a, CP, dx, fs, rfl, g, _, rfl, .inl ⟨b, CD, dy, gs, rfl, gb, .inl ⟨CP, CD, rfl, rfl, .inr ⟨mk, mkd⟩, false, ?_, iteF q⟩⟩⟩
    rw [decide_eq_false ne]
  · exact ⟨_, rfl, a, CP, dx, fs, rfl, g, _, rfl, .inr ⟨_, "tuple", rfl, .tup gb, .inr ⟨CP, "tuple", rfl, rfl, false, rfl, iteF q⟩⟩⟩
  · obtain ⟨dy, gs, v', gb, lw', lp', tr', fx'⟩ := pb
    refine ⟨_, rfl, a, CP, dx, fs, rfl, g, _, rfl, .inl ⟨b, CP, dy, gs, rfl, gb, .inl ⟨CP, CP, rfl, rfl, .inl rfl, true, ?_, iteT ?_⟩⟩⟩
    · rw [decide_eq_true rfl]
    refine ⟨_, rfl, a, CP, dx, fs, _, rfl, g, B.cl, B.nW, lw, _, rfl, b, CP, dy, gs, _, rfl, gb, B.cl, B.nW, lw', ?_⟩
    have eo : EqOf (cxOf CX0 P w K mg base ["self", "other"] "Denial.__eq__" (defScope sDEq) f cdv A outer s H E).nox C fe fde 2 (spEq K C) := ⟨FE, bE, ME⟩
    have rc := Tr.rcT eo R RE.e (tr.mono hd) (tr'.mono hd') fx fx'
    have dw : decide (V.str wd = V.str wd') = decide (wd = wd') := by
      by_cases e : wd = wd'
      · rw [decide_eq_true e, decide_eq_true (by rw [e])]
      · rw [decide_eq_false e, decide_eq_false (fun z => e (V.str.inj z))]
    refine ⟨rfl, _, by rw [dw], ?_⟩
    by_cases e : wd = wd'
    · rw [decide_eq_true e] at q ⊢
      refine iteT ⟨_, rfl, a, CP, dx, fs, _, rfl, g, B.cl, B.nP, lp, _, rfl, b, CP, dy, gs, _, rfl, gb, B.cl, B.nP, lp', 2 + 10, _, rc, hr.mono (by decide), fun H' s1 => ?_⟩
      have z := q H' s1
      rw [Bool.true_and] at z
      exact z
    · rw [decide_eq_false e] at q ⊢
      exact iteF (by have z := q H (Same.refl _); rwa [Bool.false_and] at z)
theorem scPBool : FnScope ["self"] ["self"] (defScope sPBool) := ⟨rfl, rfl, rfl, by decide +kernel, rfl, by decide +kernel, by decide +kernel⟩
theorem scDBool : FnScope ["self"] ["self"] (defScope sDBool) := ⟨rfl, rfl, rfl, by decide +kernel, rfl, by decide +kernel, by decide +kernel⟩
theorem ok_pbool (F : DefAt K "__bool__" "Paper.__bool__" sPBool f fd) : FnOk P w K mg base CX0 1 f fd ["self"] (spPBool true) := by
  refine okN F scPBool (fun vs H Q E ⟨_, e, _⟩ => by rw [e]; rfl) (fun cdv A outer s H vs Q E hr ⟨a, e, q⟩ => ?_)
  subst e
  exact ⟨_, pss_one (ps_ret pe_bl), q⟩
theorem ok_dbool (F : DefAt K "__bool__" "Denial.__bool__" sDBool f fd) : FnOk P w K mg base CX0 1 f fd ["self"] (spPBool false) := by
  refine okN F scDBool (fun vs H Q E ⟨_, e, _⟩ => by rw [e]; rfl) (fun cdv A outer s H vs Q E hr ⟨a, e, q⟩ => ?_)
  subst e
  exact ⟨_, pss_one (ps_ret pe_bl), q⟩
end
end K2

/-! Papers made; papers of other parts. -/
namespace K2
open PySem PySem.Spec PyProof.Rows L2 K1 LamX

theorem new_hide {H : Hp} {x dx : Addr} {o o' : HO} (hx : H x = none) (hd : H dx = none) (ne : dx ≠ x) : Same H (hide x (upd (upd H dx o) x o')) := fun b u e => by
  have b1 := ne_of_none e hx
  have b2 := ne_of_none e hd
  rw [hide_ne b1, upd_ne b1, upd_ne b2]
  exact e
/-- the promise of __init__ with *parts -/
def spStar (C CP : Addr) : Sp := fun vs H Q E => ∃ ws rest, vs = ws ++ rest ∧ ws.length = 2 ∧ rest.length ≤ sizeLine ∧ ∀ p, H p = none → spPI C CP (ws ++ [V.ref p]) (upd H p (.tup rest)) Q E
theorem mk_pap {C CP : Addr} {H1 : Hp} {wd : Str} {vs : List V} {ts : List T} {d : Nat} {Q : VK} {E : XK} (ne : CP ≠ C) (al : AllI (Tr C H1 d) vs ts) (hl : ts.length ≤ 4) (sm : ∀ t ∈ ts, Sml d t) (hd : d ≤ 8) (q : ∀ x H', Same H1 H' → H1 x = none → PapAt C CP H' x wd (fix (.tup ts)) → Q (.ref x) H') :
    ∀ x dx, H1 x = none → H1 dx = none → dx ≠ x → spStar C CP (V.ref x :: V.str wd :: vs) (upd (upd H1 dx (.own x)) x (.ins CP dx [])) (fun v H2 => v = .non ∧ Q (.ref x) H2) E := by
  intro x dx hx hdx nxd
  have l4 : vs.length ≤ 4 := by rw [al.1]; exact hl
  have line : (1000 : Nat) < sizeLine := by decide +kernel
  refine ⟨[V.ref x, V.str wd], vs, rfl, rfl, by omega, fun p hp => ?_⟩
  have px : p ≠ x := by rintro rfl; rw [upd_same] at hp; cases hp
  have hp1 : H1 p = none := by
    rw [upd_ne px] at hp
    by_cases e : p = dx
    · subst e; rw [upd_same] at hp; cases hp
    · rw [upd_ne e] at hp; exact hp
  have s1 : Same H1 (hide x (upd (upd (upd H1 dx (.own x)) x (.ins CP dx [])) p (.tup vs))) := fun b u e => by
    rw [hide_ne (ne_of_none e hx), upd_ne (ne_of_none e hp1), upd_ne (ne_of_none e hx), upd_ne (ne_of_none e hdx)]
    exact e
  refine ⟨x, dx, wd, p, d + 1, .tup ts, rfl, by rw [upd_ne px.symm]; exact upd_same, ?_, ⟨hl, sm⟩, by omega, fun v' H' s2 hx' r => ⟨rfl, q x H' (s1.trans s2) hx ⟨dx, _, v', hx', fsP_word _ _, fsP_parts _ _, r, (fix_ok (n := d + 1) (t := .tup ts) ⟨hl, sm⟩).1⟩⟩⟩
  exact ⟨p, vs, rfl, by rw [hide_ne px]; exact upd_same, al.1, fun i v t e1 e2 => (al.2 i v t e1 e2).same s1⟩

/-! papers of one other part -/
theorem look_put {n m : Str} {v : V} {fs : List (Str × V)} (h : ¬ m = n) : (putF n v fs).lookup m = fs.lookup m := by rw [lookup_putF, if_neg h]
/-- __init__(self, nm): word, parts, nm -/
def sp1 (C CP : Addr) (wd nm : Str) : Sp := fun vs H Q _ => ∃ (p dx : Addr) (v : V) (d : Nat) (t : T), vs = [.ref p, v] ∧ H p = some (.ins CP dx []) ∧ Tr C (hide p H) d v t ∧ Sml d t ∧ d ≤ 8 ∧
  ∀ v' u fs H', Same (hide p H) H' → H' p = some (.ins CP dx fs) → fs.lookup ("word" : Str) = some (.str wd) → fs.lookup ("parts" : Str) = some v' → fs.lookup nm = some u → Tr C H' (T.tup [fix t]).depth v' (.tup [fix t]) → Tr C H' (fix t).depth u (fix t) → Q .non H'
/-- a paper with one other part -/
def Pap1 (C CP : Addr) (H : Hp) (a : Addr) (wd nm : Str) (g : T) : Prop := ∃ dx fs v u, H a = some (.ins CP dx fs) ∧ fs.lookup ("word" : Str) = some (.str wd) ∧ fs.lookup ("parts" : Str) = some v ∧ fs.lookup nm = some u ∧ Tr C H (T.tup [g]).depth v (.tup [g]) ∧ Tr C H g.depth u g ∧ isFx g = true
theorem isFx_one {g : T} (h : isFx g = true) : isFx (.tup [g]) = true := by rw [isFx, isFxL, isFxL, h]; rfl
theorem Pap1.pap {C CP : Addr} {H : Hp} {a : Addr} {wd nm : Str} {g : T} (h : Pap1 C CP H a wd nm g) : PapAt C CP H a wd (.tup [g]) := let ⟨dx, fs, v, u, h1, h2, h3, h4, h5, h6, h7⟩ := h; ⟨dx, fs, v, h1, h2, h3, h5, isFx_one h7⟩
theorem Pap1.same {C CP : Addr} {H H' : Hp} {a : Addr} {wd nm : Str} {g : T} (s : Same H H') (h : Pap1 C CP H a wd nm g) : Pap1 C CP H' a wd nm g := let ⟨dx, fs, v, u, h1, h2, h3, h4, h5, h6, h7⟩ := h; ⟨dx, fs, v, u, s _ _ h1, h2, h3, h4, h5.same s, h6.same s, h7⟩
theorem mk_1 {C CP : Addr} {H1 : Hp} {wd nm : Str} {v : V} {t : T} {d : Nat} {Q : VK} {E : XK} (r : Tr C H1 d v t) (sm : Sml d t) (hd : d ≤ 8) (q : ∀ x H', Same H1 H' → H1 x = none → Pap1 C CP H' x wd nm (fix t) → Q (.ref x) H') :
    ∀ x dx, H1 x = none → H1 dx = none → dx ≠ x → sp1 C CP wd nm [V.ref x, v] (upd (upd H1 dx (.own x)) x (.ins CP dx [])) (fun v H2 => v = .non ∧ Q (.ref x) H2) E := by
  intro x dx hx hdx nxd
  have s1 := new_hide (o := .own x) (o' := .ins CP dx []) hx hdx nxd
  exact ⟨x, dx, v, d, t, rfl, upd_same, r.same s1, sm, hd, fun v' u fs H' s2 h1 h2 h3 h4 h5 h6 => ⟨rfl, q x H' (s1.trans s2) hx ⟨dx, fs, v', u, h1, h2, h3, h4, h5, h6, (fix_ok sm).1⟩⟩⟩
theorem one_sml {d : Nat} {t : T} (h : Sml d t) : ∀ u ∈ [t], Sml d u := fun u hu => List.mem_singleton.mp hu ▸ h
theorem fix_one (t : T) : fix (.tup [t]) = .tup [fix t] := by rw [fix, fixL, fixL]
/-- the one item of a tuple -/
theorem one_item {C : Addr} {H : Hp} {d : Nat} {v : V} {g : T} (r : Tr C H d v (.tup [g])) : ∃ a u, v = .ref a ∧ H a = some (.tup [u]) ∧ Tr C H g.depth u g := by
  obtain ⟨a, vs, rfl, h, e, _, al⟩ := r.inv
  obtain ⟨u, hu, ru⟩ := al.at_ (i := 0) rfl
  match vs, al.1, hu with
  | [w], _, hu =>
    obtain rfl : w = u := by simpa using hu
    exact ⟨a, w, rfl, h, ru.tgt⟩
/-- a Least -/
def Pap4 (C CP : Addr) (H : Hp) (a : Addr) (g1 g2 g3 g4 : T) : Prop := ∃ dx fs v u1 u2 u3 u4, H a = some (.ins CP dx fs) ∧ fs.lookup ("word" : Str) = some (.str "least") ∧ fs.lookup ("parts" : Str) = some v ∧ (fs.lookup ("number" : Str) = some u1 ∧ fs.lookup ("row" : Str) = some u2 ∧ fs.lookup ("pinch" : Str) = some u3 ∧ fs.lookup ("fence" : Str) = some u4) ∧
  Tr C H (T.tup [g1, g2, g3, g4]).depth v (.tup [g1, g2, g3, g4]) ∧ (Tr C H g1.depth u1 g1 ∧ Tr C H g2.depth u2 g2 ∧ Tr C H g3.depth u3 g3 ∧ Tr C H g4.depth u4 g4) ∧ isFx (.tup [g1, g2, g3, g4]) = true
theorem Pap4.pap {C CP : Addr} {H : Hp} {a : Addr} {g1 g2 g3 g4 : T} (h : Pap4 C CP H a g1 g2 g3 g4) : PapAt C CP H a "least" (.tup [g1, g2, g3, g4]) := let ⟨dx, fs, v, _, _, _, _, h1, h2, h3, _, h5, _, h7⟩ := h; ⟨dx, fs, v, h1, h2, h3, h5, h7⟩
theorem Pap4.same {C CP : Addr} {H H' : Hp} {a : Addr} {g1 g2 g3 g4 : T} (s : Same H H') (h : Pap4 C CP H a g1 g2 g3 g4) : Pap4 C CP H' a g1 g2 g3 g4 :=
  let ⟨dx, fs, v, u1, u2, u3, u4, h1, h2, h3, h4, h5, ⟨k1, k2, k3, k4⟩, h7⟩ := h; ⟨dx, fs, v, u1, u2, u3, u4, s _ _ h1, h2, h3, h4, h5.same s, ⟨k1.same s, k2.same s, k3.same s, k4.same s⟩, h7⟩
/-- __init__(self, number, row, pinch, fence) -/
def sp4 (C CP : Addr) : Sp := fun vs H Q _ => ∃ (p dx : Addr) (v1 v2 v3 v4 : V) (d : Nat) (t1 t2 t3 t4 : T), vs = [.ref p, v1, v2, v3, v4] ∧ H p = some (.ins CP dx []) ∧ (Tr C (hide p H) d v1 t1 ∧ Tr C (hide p H) d v2 t2 ∧ Tr C (hide p H) d v3 t3 ∧ Tr C (hide p H) d v4 t4) ∧ (Sml d t1 ∧ Sml d t2 ∧ Sml d t3 ∧ Sml d t4) ∧ d ≤ 8 ∧
  ∀ H', Same (hide p H) H' → Pap4 C CP H' p (fix t1) (fix t2) (fix t3) (fix t4) → Q .non H'
theorem mk_4 {C CP : Addr} {H1 : Hp} {v1 v2 v3 v4 : V} {t1 t2 t3 t4 : T} {d : Nat} {Q : VK} {E : XK} (r : Tr C H1 d v1 t1 ∧ Tr C H1 d v2 t2 ∧ Tr C H1 d v3 t3 ∧ Tr C H1 d v4 t4) (sm : Sml d t1 ∧ Sml d t2 ∧ Sml d t3 ∧ Sml d t4) (hd : d ≤ 8) (q : ∀ x H', Same H1 H' → H1 x = none → Pap4 C CP H' x (fix t1) (fix t2) (fix t3) (fix t4) → Q (.ref x) H') :
    ∀ x dx, H1 x = none → H1 dx = none → dx ≠ x → sp4 C CP [V.ref x, v1, v2, v3, v4] (upd (upd H1 dx (.own x)) x (.ins CP dx [])) (fun v H2 => v = .non ∧ Q (.ref x) H2) E := by
  intro x dx hx hdx nxd
  have s1 := new_hide (o := .own x) (o' := .ins CP dx []) hx hdx nxd
  exact ⟨x, dx, v1, v2, v3, v4, d, t1, t2, t3, t4, rfl, upd_same, ⟨r.1.same s1, r.2.1.same s1, r.2.2.1.same s1, r.2.2.2.same s1⟩, sm, hd, fun H' s2 h => ⟨rfl, q x H' (s1.trans s2) hx h⟩⟩
theorem fix_four (a b c d : T) : fix (.tup [a, b, c, d]) = .tup [fix a, fix b, fix c, fix d] := by rw [fix, fixL, fixL, fixL, fixL, fixL]
theorem four_items {C : Addr} {H : Hp} {d : Nat} {v : V} {g1 g2 g3 g4 : T} (r : Tr C H d v (.tup [g1, g2, g3, g4])) : ∃ a u1 u2 u3 u4, v = .ref a ∧ H a = some (.tup [u1, u2, u3, u4]) ∧ Tr C H g1.depth u1 g1 ∧ Tr C H g2.depth u2 g2 ∧ Tr C H g3.depth u3 g3 ∧ Tr C H g4.depth u4 g4 := by
  obtain ⟨a, vs, rfl, h, e, _, al⟩ := r.inv
  match vs, al.1, al.2 with
  | [w1, w2, w3, w4], _, al => exact ⟨a, w1, w2, w3, w4, rfl, h, (al 0 _ _ rfl rfl).tgt, (al 1 _ _ rfl rfl).tgt, (al 2 _ _ rfl rfl).tgt, (al 3 _ _ rfl rfl).tgt⟩
theorem fx4 {g1 g2 g3 g4 : T} (h1 : isFx g1 = true) (h2 : isFx g2 = true) (h3 : isFx g3 = true) (h4 : isFx g4 = true) : isFx (.tup [g1, g2, g3, g4]) = true := by
  rw [isFx, isFxL, isFxL, isFxL, isFxL, isFxL, h1, h2, h3, h4]; rfl
section
variable {P : Program} {w : World} {K : PySem.W.Frag} {mg : Str → Option Value} {base : Heap} {f C CP : Addr} {fd : FuncData}
theorem scNever : FnScope ["self", "sets"] ["self", "sets"] (defScope sNever) := ⟨rfl, rfl, rfl, by decide +kernel, rfl, by decide +kernel, by decide +kernel⟩
theorem ok_never (B : PapC K CP) (nn : NoAttr K CP "sets") (ne : CP ≠ C) (HF : HasFix9 P w K mg base C) (F : DefAt K "__init__" "Never.__init__" sNever f fd) : FnOk P w K mg base CX0 12 f fd ["self", "sets"] (sp1 C CP "never" "sets") := by
  obtain ⟨ff, fdf, mF, kF, bF, GF⟩ := HF.h
  refine okN F scNever (fun vs H Q E ⟨_, _, _, _, _, e, _⟩ => by rw [e]; rfl) (fun cdv A outer s H vs Q E hr ⟨p, dx, v, d, t, e, hp, tr, sm, hd, k⟩ => ?_)
  subst e
  refine ⟨_, pss_cons (ps_fld (pv 0) pe_str rfl) (pss_cons (ps_fld (pv 0) (pe_call GF hr rfl mF kF bF .nil pass0 (pa_cons (pe_tup (pa_cons (pv 1) pa_nil)) pa_nil)) rfl)
    (pss_one (ps_fld (pv 0) (pe_ix ix_tup (pe_fld (pv 0) rfl) pe_int (fun _ _ => rfl)) rfl))), ?_⟩
  refine ⟨_, rfl, p, CP, dx, [], rfl, hp, B.cl, B.nW, (by show 0 < 1000; decide), ?_⟩
  refine ⟨_, rfl, (by show 1 ≤ sizeLine; decide +kernel), fun q hq => ?_⟩
  have pq : q ≠ p := by rintro rfl; rw [upd_same] at hq; cases hq
  have s1 : Same (hide p H) (upd (upd H p (.ins CP dx (putF "word" (.str "never") []))) q (.tup [v])) := hide_upd.trans (upd_new hq)
  have tt : Tr C (upd (upd H p (.ins CP dx (putF "word" (.str "never") []))) q (.tup [v])) (d + 1) (.ref q) (.tup [t]) := ⟨q, [v], rfl, upd_same, rfl, fun i w u e1 e2 => by
    match i, e1, e2 with
    | 0, e1, e2 => simp at e1 e2; subst e1 e2; exact tr.same s1
    | i + 1, e1, e2 => simp at e1⟩
  refine fix9 (E := E0) tt ⟨(show 1 ≤ 4 by decide), one_sml sm⟩ (by omega) fun v' H' s2 r => ?_
  rw [fix_one] at r
  have h1 : H' p = some (.ins CP dx (putF "word" (.str "never") [])) := s2 _ _ (by rw [upd_ne pq.symm]; exact upd_same)
  refine ⟨_, rfl, p, CP, dx, _, rfl, h1, B.cl, B.nP, (by show 1 < 1000; decide), ?_⟩
  have fx := isFx_one (fix_ok sm).1
  have r2 := r.putI (o := .ins CP dx (putF "parts" v' (putF "word" (.str "never") []))) fx h1 ne
  obtain ⟨b, u, rfl, gb, ru⟩ := one_item r2
  refine ⟨_, rfl, p, CP, dx, _, _, rfl, upd_same, B.cl, B.nP, by rw [lookup_putF, if_pos rfl], b, [u], 0, u, rfl, rfl, SqT.of gb, atI_nat (j := 0) rfl, ?_⟩
  refine ⟨_, rfl, p, CP, dx, _, rfl, upd_same, B.cl, nn, (by show 2 < 1000; decide), ?_⟩
  refine k _ u _ _ (fun c o e => ?_) upd_same ?_ ?_ ?_ (r2.putI fx upd_same ne) (ru.putI (fix_ok sm).1 upd_same ne)
  · obtain ⟨e1, e2⟩ := hide_of e
    rw [upd_ne e1, upd_ne e1]
    refine s2 _ _ (s1 _ _ ?_)
    rw [hide_ne e1]
    exact e2
  · rw [look_put (by decide +kernel), look_put (by decide +kernel), lookup_putF, if_pos rfl]
  · rw [look_put (by decide +kernel), lookup_putF, if_pos rfl]
  · rw [lookup_putF, if_pos rfl]
theorem scGood : FnScope ["self", "row"] ["self", "row"] (defScope sGood) := ⟨rfl, rfl, rfl, by decide +kernel, rfl, by decide +kernel, by decide +kernel⟩
theorem ok_good (B : PapC K CP) (nn : NoAttr K CP "row") (ne : CP ≠ C) (HF : HasFix9 P w K mg base C) (F : DefAt K "__init__" "Good.__init__" sGood f fd) : FnOk P w K mg base CX0 12 f fd ["self", "row"] (sp1 C CP "good" "row") := by
  obtain ⟨ff, fdf, mF, kF, bF, GF⟩ := HF.h
  refine okN F scGood (fun vs H Q E ⟨_, _, _, _, _, e, _⟩ => by rw [e]; rfl) (fun cdv A outer s H vs Q E hr ⟨p, dx, v, d, t, e, hp, tr, sm, hd, k⟩ => ?_)
  subst e
  refine ⟨_, pss_cons (ps_fld (pv 0) pe_str rfl) (pss_cons (ps_fld (pv 0) (pe_call GF hr rfl mF kF bF .nil pass0 (pa_cons (pe_tup (pa_cons (pv 1) pa_nil)) pa_nil)) rfl)
    (pss_one (ps_fld (pv 0) (pe_ix ix_tup (pe_fld (pv 0) rfl) pe_int (fun _ _ => rfl)) rfl))), ?_⟩
  refine ⟨_, rfl, p, CP, dx, [], rfl, hp, B.cl, B.nW, (by show 0 < 1000; decide), ?_⟩
  refine ⟨_, rfl, (by show 1 ≤ sizeLine; decide +kernel), fun q hq => ?_⟩
  have pq : q ≠ p := by rintro rfl; rw [upd_same] at hq; cases hq
  have s1 : Same (hide p H) (upd (upd H p (.ins CP dx (putF "word" (.str "good") []))) q (.tup [v])) := hide_upd.trans (upd_new hq)
  have tt : Tr C (upd (upd H p (.ins CP dx (putF "word" (.str "good") []))) q (.tup [v])) (d + 1) (.ref q) (.tup [t]) := ⟨q, [v], rfl, upd_same, rfl, fun i w u e1 e2 => by
    match i, e1, e2 with
    | 0, e1, e2 => simp at e1 e2; subst e1 e2; exact tr.same s1
    | i + 1, e1, e2 => simp at e1⟩
  refine fix9 (E := E0) tt ⟨(show 1 ≤ 4 by decide), one_sml sm⟩ (by omega) fun v' H' s2 r => ?_
  rw [fix_one] at r
  have h1 : H' p = some (.ins CP dx (putF "word" (.str "good") [])) := s2 _ _ (by rw [upd_ne pq.symm]; exact upd_same)
  refine ⟨_, rfl, p, CP, dx, _, rfl, h1, B.cl, B.nP, (by show 1 < 1000; decide), ?_⟩
  have fx := isFx_one (fix_ok sm).1
  have r2 := r.putI (o := .ins CP dx (putF "parts" v' (putF "word" (.str "good") []))) fx h1 ne
  obtain ⟨b, u, rfl, gb, ru⟩ := one_item r2
  refine ⟨_, rfl, p, CP, dx, _, _, rfl, upd_same, B.cl, B.nP, by rw [lookup_putF, if_pos rfl], b, [u], 0, u, rfl, rfl, SqT.of gb, atI_nat (j := 0) rfl, ?_⟩
  refine ⟨_, rfl, p, CP, dx, _, rfl, upd_same, B.cl, nn, (by show 2 < 1000; decide), ?_⟩
  refine k _ u _ _ (fun c o e => ?_) upd_same ?_ ?_ ?_ (r2.putI fx upd_same ne) (ru.putI (fix_ok sm).1 upd_same ne)
  · obtain ⟨e1, e2⟩ := hide_of e
    rw [upd_ne e1, upd_ne e1]
    refine s2 _ _ (s1 _ _ ?_)
    rw [hide_ne e1]
    exact e2
  · rw [look_put (by decide +kernel), look_put (by decide +kernel), lookup_putF, if_pos rfl]
  · rw [look_put (by decide +kernel), lookup_putF, if_pos rfl]
  · rw [lookup_putF, if_pos rfl]
theorem scStuck : FnScope ["self", "sets"] ["self", "sets"] (defScope sStuck) := ⟨rfl, rfl, rfl, by decide +kernel, rfl, by decide +kernel, by decide +kernel⟩
theorem ok_stuck (B : PapC K CP) (nn : NoAttr K CP "sets") (ne : CP ≠ C) (HF : HasFix9 P w K mg base C) (F : DefAt K "__init__" "Stuck.__init__" sStuck f fd) : FnOk P w K mg base CX0 12 f fd ["self", "sets"] (sp1 C CP "stuck" "sets") := by
  obtain ⟨ff, fdf, mF, kF, bF, GF⟩ := HF.h
  refine okN F scStuck (fun vs H Q E ⟨_, _, _, _, _, e, _⟩ => by rw [e]; rfl) (fun cdv A outer s H vs Q E hr ⟨p, dx, v, d, t, e, hp, tr, sm, hd, k⟩ => ?_)
  subst e
  refine ⟨_, pss_cons (ps_fld (pv 0) pe_str rfl) (pss_cons (ps_fld (pv 0) (pe_call GF hr rfl mF kF bF .nil pass0 (pa_cons (pe_tup (pa_cons (pv 1) pa_nil)) pa_nil)) rfl)
    (pss_one (ps_fld (pv 0) (pe_ix ix_tup (pe_fld (pv 0) rfl) pe_int (fun _ _ => rfl)) rfl))), ?_⟩
  refine ⟨_, rfl, p, CP, dx, [], rfl, hp, B.cl, B.nW, (by show 0 < 1000; decide), ?_⟩
  refine ⟨_, rfl, (by show 1 ≤ sizeLine; decide +kernel), fun q hq => ?_⟩
  have pq : q ≠ p := by rintro rfl; rw [upd_same] at hq; cases hq
  have s1 : Same (hide p H) (upd (upd H p (.ins CP dx (putF "word" (.str "stuck") []))) q (.tup [v])) := hide_upd.trans (upd_new hq)
  have tt : Tr C (upd (upd H p (.ins CP dx (putF "word" (.str "stuck") []))) q (.tup [v])) (d + 1) (.ref q) (.tup [t]) := ⟨q, [v], rfl, upd_same, rfl, fun i w u e1 e2 => by
    match i, e1, e2 with
    | 0, e1, e2 => simp at e1 e2; subst e1 e2; exact tr.same s1
    | i + 1, e1, e2 => simp at e1⟩
  refine fix9 (E := E0) tt ⟨(show 1 ≤ 4 by decide), one_sml sm⟩ (by omega) fun v' H' s2 r => ?_
  rw [fix_one] at r
  have h1 : H' p = some (.ins CP dx (putF "word" (.str "stuck") [])) := s2 _ _ (by rw [upd_ne pq.symm]; exact upd_same)
  refine ⟨_, rfl, p, CP, dx, _, rfl, h1, B.cl, B.nP, (by show 1 < 1000; decide), ?_⟩
  have fx := isFx_one (fix_ok sm).1
  have r2 := r.putI (o := .ins CP dx (putF "parts" v' (putF "word" (.str "stuck") []))) fx h1 ne
  obtain ⟨b, u, rfl, gb, ru⟩ := one_item r2
  refine ⟨_, rfl, p, CP, dx, _, _, rfl, upd_same, B.cl, B.nP, by rw [lookup_putF, if_pos rfl], b, [u], 0, u, rfl, rfl, SqT.of gb, atI_nat (j := 0) rfl, ?_⟩
  refine ⟨_, rfl, p, CP, dx, _, rfl, upd_same, B.cl, nn, (by show 2 < 1000; decide), ?_⟩
  refine k _ u _ _ (fun c o e => ?_) upd_same ?_ ?_ ?_ (r2.putI fx upd_same ne) (ru.putI (fix_ok sm).1 upd_same ne)
  · obtain ⟨e1, e2⟩ := hide_of e
    rw [upd_ne e1, upd_ne e1]
    refine s2 _ _ (s1 _ _ ?_)
    rw [hide_ne e1]
    exact e2
  · rw [look_put (by decide +kernel), look_put (by decide +kernel), lookup_putF, if_pos rfl]
  · rw [look_put (by decide +kernel), lookup_putF, if_pos rfl]
  · rw [lookup_putF, if_pos rfl]
theorem scParted : FnScope ["self", "done"] ["self", "done"] (defScope sParted) := ⟨rfl, rfl, rfl, by decide +kernel, rfl, by decide +kernel, by decide +kernel⟩
theorem ok_parted (B : PapC K CP) (nn : NoAttr K CP "done") (ne : CP ≠ C) (HF : HasFix9 P w K mg base C) (F : DefAt K "__init__" "Parted.__init__" sParted f fd) : FnOk P w K mg base CX0 12 f fd ["self", "done"] (sp1 C CP "parted" "done") := by
  obtain ⟨ff, fdf, mF, kF, bF, GF⟩ := HF.h
  refine okN F scParted (fun vs H Q E ⟨_, _, _, _, _, e, _⟩ => by rw [e]; rfl) (fun cdv A outer s H vs Q E hr ⟨p, dx, v, d, t, e, hp, tr, sm, hd, k⟩ => ?_)
  subst e
  refine ⟨_, pss_cons (ps_fld (pv 0) pe_str rfl) (pss_cons (ps_fld (pv 0) (pe_call GF hr rfl mF kF bF .nil pass0 (pa_cons (pe_tup (pa_cons (pv 1) pa_nil)) pa_nil)) rfl)
    (pss_one (ps_fld (pv 0) (pe_ix ix_tup (pe_fld (pv 0) rfl) pe_int (fun _ _ => rfl)) rfl))), ?_⟩
  refine ⟨_, rfl, p, CP, dx, [], rfl, hp, B.cl, B.nW, (by show 0 < 1000; decide), ?_⟩
  refine ⟨_, rfl, (by show 1 ≤ sizeLine; decide +kernel), fun q hq => ?_⟩
  have pq : q ≠ p := by rintro rfl; rw [upd_same] at hq; cases hq
  have s1 : Same (hide p H) (upd (upd H p (.ins CP dx (putF "word" (.str "parted") []))) q (.tup [v])) := hide_upd.trans (upd_new hq)
  have tt : Tr C (upd (upd H p (.ins CP dx (putF "word" (.str "parted") []))) q (.tup [v])) (d + 1) (.ref q) (.tup [t]) := ⟨q, [v], rfl, upd_same, rfl, fun i w u e1 e2 => by
    match i, e1, e2 with
    | 0, e1, e2 => simp at e1 e2; subst e1 e2; exact tr.same s1
    | i + 1, e1, e2 => simp at e1⟩
  refine fix9 (E := E0) tt ⟨(show 1 ≤ 4 by decide), one_sml sm⟩ (by omega) fun v' H' s2 r => ?_
  rw [fix_one] at r
  have h1 : H' p = some (.ins CP dx (putF "word" (.str "parted") [])) := s2 _ _ (by rw [upd_ne pq.symm]; exact upd_same)
  refine ⟨_, rfl, p, CP, dx, _, rfl, h1, B.cl, B.nP, (by show 1 < 1000; decide), ?_⟩
  have fx := isFx_one (fix_ok sm).1
  have r2 := r.putI (o := .ins CP dx (putF "parts" v' (putF "word" (.str "parted") []))) fx h1 ne
  obtain ⟨b, u, rfl, gb, ru⟩ := one_item r2
  refine ⟨_, rfl, p, CP, dx, _, _, rfl, upd_same, B.cl, B.nP, by rw [lookup_putF, if_pos rfl], b, [u], 0, u, rfl, rfl, SqT.of gb, atI_nat (j := 0) rfl, ?_⟩
  refine ⟨_, rfl, p, CP, dx, _, rfl, upd_same, B.cl, nn, (by show 2 < 1000; decide), ?_⟩
  refine k _ u _ _ (fun c o e => ?_) upd_same ?_ ?_ ?_ (r2.putI fx upd_same ne) (ru.putI (fix_ok sm).1 upd_same ne)
  · obtain ⟨e1, e2⟩ := hide_of e
    rw [upd_ne e1, upd_ne e1]
    refine s2 _ _ (s1 _ _ ?_)
    rw [hide_ne e1]
    exact e2
  · rw [look_put (by decide +kernel), look_put (by decide +kernel), lookup_putF, if_pos rfl]
  · rw [look_put (by decide +kernel), lookup_putF, if_pos rfl]
  · rw [lookup_putF, if_pos rfl]
theorem scTogether : FnScope ["self", "lines"] ["self", "lines"] (defScope sTogether) := ⟨rfl, rfl, rfl, by decide +kernel, rfl, by decide +kernel, by decide +kernel⟩
theorem ok_together (B : PapC K CP) (nn : NoAttr K CP "lines") (ne : CP ≠ C) (HF : HasFix9 P w K mg base C) (F : DefAt K "__init__" "Together.__init__" sTogether f fd) : FnOk P w K mg base CX0 12 f fd ["self", "lines"] (sp1 C CP "together" "lines") := by
  obtain ⟨ff, fdf, mF, kF, bF, GF⟩ := HF.h
  refine okN F scTogether (fun vs H Q E ⟨_, _, _, _, _, e, _⟩ => by rw [e]; rfl) (fun cdv A outer s H vs Q E hr ⟨p, dx, v, d, t, e, hp, tr, sm, hd, k⟩ => ?_)
  subst e
  refine ⟨_, pss_cons (ps_fld (pv 0) pe_str rfl) (pss_cons (ps_fld (pv 0) (pe_call GF hr rfl mF kF bF .nil pass0 (pa_cons (pe_tup (pa_cons (pv 1) pa_nil)) pa_nil)) rfl)
    (pss_one (ps_fld (pv 0) (pe_ix ix_tup (pe_fld (pv 0) rfl) pe_int (fun _ _ => rfl)) rfl))), ?_⟩
  refine ⟨_, rfl, p, CP, dx, [], rfl, hp, B.cl, B.nW, (by show 0 < 1000; decide), ?_⟩
  refine ⟨_, rfl, (by show 1 ≤ sizeLine; decide +kernel), fun q hq => ?_⟩
  have pq : q ≠ p := by rintro rfl; rw [upd_same] at hq; cases hq
  have s1 : Same (hide p H) (upd (upd H p (.ins CP dx (putF "word" (.str "together") []))) q (.tup [v])) := hide_upd.trans (upd_new hq)
  have tt : Tr C (upd (upd H p (.ins CP dx (putF "word" (.str "together") []))) q (.tup [v])) (d + 1) (.ref q) (.tup [t]) := ⟨q, [v], rfl, upd_same, rfl, fun i w u e1 e2 => by
    match i, e1, e2 with
    | 0, e1, e2 => simp at e1 e2; subst e1 e2; exact tr.same s1
    | i + 1, e1, e2 => simp at e1⟩
  refine fix9 (E := E0) tt ⟨(show 1 ≤ 4 by decide), one_sml sm⟩ (by omega) fun v' H' s2 r => ?_
  rw [fix_one] at r
  have h1 : H' p = some (.ins CP dx (putF "word" (.str "together") [])) := s2 _ _ (by rw [upd_ne pq.symm]; exact upd_same)
  refine ⟨_, rfl, p, CP, dx, _, rfl, h1, B.cl, B.nP, (by show 1 < 1000; decide), ?_⟩
  have fx := isFx_one (fix_ok sm).1
  have r2 := r.putI (o := .ins CP dx (putF "parts" v' (putF "word" (.str "together") []))) fx h1 ne
  obtain ⟨b, u, rfl, gb, ru⟩ := one_item r2
  refine ⟨_, rfl, p, CP, dx, _, _, rfl, upd_same, B.cl, B.nP, by rw [lookup_putF, if_pos rfl], b, [u], 0, u, rfl, rfl, SqT.of gb, atI_nat (j := 0) rfl, ?_⟩
  refine ⟨_, rfl, p, CP, dx, _, rfl, upd_same, B.cl, nn, (by show 2 < 1000; decide), ?_⟩
  refine k _ u _ _ (fun c o e => ?_) upd_same ?_ ?_ ?_ (r2.putI fx upd_same ne) (ru.putI (fix_ok sm).1 upd_same ne)
  · obtain ⟨e1, e2⟩ := hide_of e
    rw [upd_ne e1, upd_ne e1]
    refine s2 _ _ (s1 _ _ ?_)
    rw [hide_ne e1]
    exact e2
  · rw [look_put (by decide +kernel), look_put (by decide +kernel), lookup_putF, if_pos rfl]
  · rw [look_put (by decide +kernel), lookup_putF, if_pos rfl]
  · rw [lookup_putF, if_pos rfl]
theorem scLeast : FnScope ["self", "number", "row", "pinch", "fence"] ["self", "number", "row", "pinch", "fence"] (defScope sLeast) := ⟨rfl, rfl, rfl, by decide +kernel, rfl, by decide +kernel, by decide +kernel⟩
theorem ok_least (B : PapC K CP) (n1 : NoAttr K CP "number") (n2 : NoAttr K CP "row") (n3 : NoAttr K CP "pinch") (n4 : NoAttr K CP "fence") (ne : CP ≠ C) (HF : HasFix9 P w K mg base C) (F : DefAt K "__init__" "Least.__init__" sLeast f fd) : FnOk P w K mg base CX0 12 f fd ["self", "number", "row", "pinch", "fence"] (sp4 C CP) := by
  obtain ⟨ff, fdf, mF, kF, bF, GF⟩ := HF.h
  refine okN F scLeast (fun vs H Q E ⟨_, _, _, _, _, _, _, _, _, _, _, e, _⟩ => by rw [e]; rfl) (fun cdv A outer s H vs Q E hr ⟨p, dx, v1, v2, v3, v4, d, t1, t2, t3, t4, e, hp, ⟨r1, r2, r3, r4⟩, ⟨m1, m2, m3, m4⟩, hd, k⟩ => ?_)
  subst e
  refine ⟨_, pss_cons (ps_fld (pv 0) pe_str rfl) (pss_cons (ps_fld (pv 0) (pe_call GF hr rfl mF kF bF .nil pass0 (pa_cons (pe_tup (pa_cons (pv 1) (pa_cons (pv 2) (pa_cons (pv 3) (pa_cons (pv 4) pa_nil))))) pa_nil)) rfl)
    (pss_cons (ps_fld (pv 0) (pe_ix ix_tup (pe_fld (pv 0) rfl) pe_int (fun _ _ => rfl)) rfl)
    (pss_cons (ps_fld (pv 0) (pe_ix ix_tup (pe_fld (pv 0) rfl) pe_int (fun _ _ => rfl)) rfl)
    (pss_cons (ps_fld (pv 0) (pe_ix ix_tup (pe_fld (pv 0) rfl) pe_int (fun _ _ => rfl)) rfl)
    (pss_one (ps_fld (pv 0) (pe_ix ix_tup (pe_fld (pv 0) rfl) pe_int (fun _ _ => rfl)) rfl)))))), ?_⟩
  refine ⟨_, rfl, p, CP, dx, [], rfl, hp, B.cl, B.nW, (by show 0 < 1000; decide), ?_⟩
  refine ⟨_, rfl, _, rfl, _, rfl, _, rfl, (by show 4 ≤ sizeLine; decide +kernel), fun q hq => ?_⟩
  have pq : q ≠ p := by rintro rfl; rw [upd_same] at hq; cases hq
  have s1 : Same (hide p H) (upd (upd H p (.ins CP dx (putF "word" (.str "least") []))) q (.tup [v1, v2, v3, v4])) := hide_upd.trans (upd_new hq)
  have tt : Tr C (upd (upd H p (.ins CP dx (putF "word" (.str "least") []))) q (.tup [v1, v2, v3, v4])) (d + 1) (.ref q) (.tup [t1, t2, t3, t4]) := ⟨q, _, rfl, upd_same, rfl, fun i w u e1 e2 => by
    match i, e1, e2 with
    | 0, e1, e2 => simp at e1 e2; subst e1 e2; exact r1.same s1
    | 1, e1, e2 => simp at e1 e2; subst e1 e2; exact r2.same s1
    | 2, e1, e2 => simp at e1 e2; subst e1 e2; exact r3.same s1
    | 3, e1, e2 => simp at e1 e2; subst e1 e2; exact r4.same s1
    | i + 4, e1, e2 => simp at e1⟩
  refine fix9 (E := E0) tt ⟨(show 4 ≤ 4 by decide), fun u hu => by
    simp only [List.mem_cons, List.not_mem_nil, or_false] at hu
    rcases hu with rfl | rfl | rfl | rfl <;> assumption⟩ (by omega) fun v' H' s2 r => ?_
  rw [fix_four] at r
  have h1 : H' p = some (.ins CP dx (putF "word" (.str "least") [])) := s2 _ _ (by rw [upd_ne pq.symm]; exact upd_same)
  refine ⟨_, rfl, p, CP, dx, _, rfl, h1, B.cl, B.nP, (by show 1 < 1000; decide), ?_⟩
  have fx := fx4 (fix_ok m1).1 (fix_ok m2).1 (fix_ok m3).1 (fix_ok m4).1
  have q2 := r.putI (o := .ins CP dx (putF "parts" v' (putF "word" (.str "least") []))) fx h1 ne
  obtain ⟨b, u1, u2, u3, u4, rfl, gb, k1, k2, k3, k4⟩ := four_items q2
  have bp : b ≠ p := by rintro rfl; rw [upd_same] at gb; cases gb
  refine ⟨_, rfl, p, CP, dx, _, _, rfl, upd_same, B.cl, B.nP, by rw [lookup_putF, if_pos rfl], b, _, 0, u1, rfl, rfl, SqT.of gb, atI_nat (j := 0) rfl, ?_⟩
  refine ⟨_, rfl, p, CP, dx, _, rfl, upd_same, B.cl, n1, (by show 2 < 1000; decide), ?_⟩
  rw [upd_upd]
  refine ⟨_, rfl, p, CP, dx, _, _, rfl, upd_same, B.cl, B.nP, by rw [look_put (by decide +kernel), lookup_putF, if_pos rfl], b, _, 1, u2, rfl, rfl, SqT.of (by rw [upd_ne bp] at gb ⊢; exact gb), atI_nat (j := 1) rfl, ?_⟩
  refine ⟨_, rfl, p, CP, dx, _, rfl, upd_same, B.cl, n2, (by show 3 < 1000; decide), ?_⟩
  rw [upd_upd]
  refine ⟨_, rfl, p, CP, dx, _, _, rfl, upd_same, B.cl, B.nP, by rw [look_put (by decide +kernel), look_put (by decide +kernel), lookup_putF, if_pos rfl], b, _, 2, u3, rfl, rfl, SqT.of (by rw [upd_ne bp] at gb ⊢; exact gb), atI_nat (j := 2) rfl, ?_⟩
  refine ⟨_, rfl, p, CP, dx, _, rfl, upd_same, B.cl, n3, (by show 4 < 1000; decide), ?_⟩
  rw [upd_upd]
  refine ⟨_, rfl, p, CP, dx, _, _, rfl, upd_same, B.cl, B.nP, by rw [look_put (by decide +kernel), look_put (by decide +kernel), look_put (by decide +kernel), lookup_putF, if_pos rfl], b, _, 3, u4, rfl, rfl, SqT.of (by rw [upd_ne bp] at gb ⊢; exact gb), atI_nat (j := 3) rfl, ?_⟩
  refine ⟨_, rfl, p, CP, dx, _, rfl, upd_same, B.cl, n4, (by show 5 < 1000; decide), ?_⟩
  rw [upd_upd]
  refine k _ (fun c o e => ?_) ⟨dx, _, .ref b, u1, u2, u3, u4, upd_same, ?_, ?_, ⟨?_, ?_, ?_, ?_⟩, r.putI fx h1 ne, ⟨?_, ?_, ?_, ?_⟩, fx⟩
  · obtain ⟨e1, e2⟩ := hide_of e
    rw [upd_ne e1]
    refine s2 _ _ (s1 _ _ ?_)
    rw [hide_ne e1]
    exact e2
  · rw [look_put (by decide +kernel), look_put (by decide +kernel), look_put (by decide +kernel), look_put (by decide +kernel), look_put (by decide +kernel), lookup_putF, if_pos rfl]
  · rw [look_put (by decide +kernel), look_put (by decide +kernel), look_put (by decide +kernel), look_put (by decide +kernel), lookup_putF, if_pos rfl]
  · rw [look_put (by decide +kernel), look_put (by decide +kernel), look_put (by decide +kernel), lookup_putF, if_pos rfl]
  · rw [look_put (by decide +kernel), look_put (by decide +kernel), lookup_putF, if_pos rfl]
  · rw [look_put (by decide +kernel), lookup_putF, if_pos rfl]
  · rw [lookup_putF, if_pos rfl]
  · have z := k1.putI (o := .ins CP dx (putF "fence" u4 (putF "pinch" u3 (putF "row" u2 (putF "number" u1 (putF "parts" (.ref b) (putF "word" (.str "least") []))))))) (fix_ok m1).1 upd_same ne
    rw [upd_upd] at z
    exact z
  · have z := k2.putI (o := .ins CP dx (putF "fence" u4 (putF "pinch" u3 (putF "row" u2 (putF "number" u1 (putF "parts" (.ref b) (putF "word" (.str "least") []))))))) (fix_ok m2).1 upd_same ne
    rw [upd_upd] at z
    exact z
  · have z := k3.putI (o := .ins CP dx (putF "fence" u4 (putF "pinch" u3 (putF "row" u2 (putF "number" u1 (putF "parts" (.ref b) (putF "word" (.str "least") []))))))) (fix_ok m3).1 upd_same ne
    rw [upd_upd] at z
    exact z
  · have z := k4.putI (o := .ins CP dx (putF "fence" u4 (putF "pinch" u3 (putF "row" u2 (putF "number" u1 (putF "parts" (.ref b) (putF "word" (.str "least") []))))))) (fix_ok m4).1 upd_same ne
    rw [upd_upd] at z
    exact z
end
end K2

/-! the law's tub and scoop -/
namespace K2
open PySem PySem.Spec PyProof.Rows L2 K1

/-- ** of ints of any size, the power's bits bounded -/
def CPowW (i j : Int) : Prop := 0 ≤ j ∧ j ≤ 1000 ∧ i.natAbs.log2 < 10000
theorem op_powW {X : Cx} : OpR X (binaryOp .Pow) (rI CPowW fun i j => .int (i ^ j.toNat)) := opI fun i j _ _ _ _ _ hc q => by
  obtain ⟨h0, h1, h2⟩ := hc
  have b : Builtin.Int.intBits i ≤ i.natAbs.log2 + 1 := by
    unfold Builtin.Int.intBits
    split <;> omega
  have b2 : (Builtin.Int.intBits i : Int) ≤ 10000 := by omega
  have b3 : (Builtin.Int.intBits i : Int) * j ≤ 10000 * 1000 := by
    calc (Builtin.Int.intBits i : Int) * j ≤ 10000 * j := Int.mul_le_mul_of_nonneg_right b2 h0
      _ ≤ 10000 * 1000 := Int.mul_le_mul_of_nonneg_left h1 (by decide)
  have b4 : (10000 * 1000 : Int) ≤ 2 ^ 27 := by decide
  exact pow_int h0 (Int.le_trans b3 b4) q

/-- the pail: what is left, how often it was filled anew (n at most), what it was at first -/
def Pail (x y z : Int) (n : Nat) : Prop := 0 ≤ x ∧ x < 2 ^ 1400 ∧ 0 ≤ y ∧ y ≤ n ∧ n ≤ 10000 ∧ 0 ≤ z ∧ z < 2 ^ 1000
def spDip : Sp := fun vs H Q _ => ∃ (p : Addr) (x y z m : Int) (n : Nat), vs = [.ref p, .int m] ∧ H p = some (.lst [.int x, .int y, .int z]) ∧ Pail x y z n ∧ n < 10000 ∧ 0 < m ∧ m < 2 ^ 300 ∧
  ∀ (x' y' r : Int), 0 ≤ r → r < m → Pail x' y' z (n + 1) → Q (.int r) (upd H p (.lst [.int x', .int y', .int z]))

theorem fill_lt {y z : Int} (h0 : 0 ≤ y) (h1 : y ≤ 10001) (h2 : 0 ≤ z) : 0 ≤ (991 * y + 3533 + z % 10 ^ 30) ∧ (991 * y + 3533 + z % 10 ^ 30) < 2 ^ 100 := by
  have a : z % 10 ^ 30 < 10 ^ 30 := Int.emod_lt_of_pos _ (by decide)
  have b : 0 ≤ z % 10 ^ 30 := Int.emod_nonneg _ (by decide)
  have c : (10 ^ 30 : Int) + 100000000 < 2 ^ 100 := by decide
  constructor <;> omega
theorem powLe {a b : Int} (h0 : 0 ≤ a) (h : a ≤ b) : ∀ n : Nat, a ^ n ≤ b ^ n
  | 0 => by simp
  | n + 1 => by
    rw [Int.pow_succ, Int.pow_succ]
    exact Int.mul_le_mul (powLe h0 h n) h h0 (Int.pow_nonneg (Int.le_trans h0 h))
theorem fill13 {b : Int} (h0 : 0 ≤ b) (h1 : b < 2 ^ 100) : 0 ≤ b ^ 13 / 7 ∧ b ^ 13 / 7 < 2 ^ 1400 := by
  have a : 0 ≤ b ^ 13 := Int.pow_nonneg h0
  have c : b ^ 13 ≤ (2 ^ 100) ^ 13 := powLe h0 (Int.le_of_lt h1) 13
  have d : ((2 : Int) ^ 100) ^ 13 < 2 ^ 1400 := by decide +kernel
  constructor
  · exact Int.ediv_nonneg a (by decide)
  · have e : b ^ 13 / 7 ≤ b ^ 13 := Int.ediv_le_self _ a
    omega

section
variable {P : Program} {w : World} {K : PySem.W.Frag} {mg : Str → Option Value} {base : Heap} {f : Addr} {fd : FuncData}
theorem scDip : FnScope ["_law_crate_here", "_law_many", "_law_rest"] ["_law_crate_here", "_law_many"] (defScope sHaul) := ⟨rfl, rfl, rfl, by decide +kernel, rfl, by decide +kernel, by decide +kernel⟩
theorem ok_dip (F : DefAt K "_law_haul" "_law_haul" sHaul f fd) : FnOk P w K mg base CX0 1 f fd ["_law_crate_here", "_law_many"] spDip := by
  refine okN F scDip (fun vs H Q E h => ?_) (fun cdv A outer s H vs Q E hr h => ?_)
  · obtain ⟨p, x, y, z, m, n, rfl, _⟩ := h
    rfl
  · obtain ⟨p, x, y, z, m, n, rfl, hp, hP, hn, m0, m1, k⟩ := h
    obtain ⟨x0, x1, y0, y1, n0, z0, z1⟩ := hP
    refine ⟨_, pss_cons (ps_if (pt_cmpR op_eq (pe_ix ix_list (pv 0) pe_int (fun _ _ => rfl)) pe_int (nomark _))
        (pss_cons (ps_asg (pe_op op_add (pe_ix ix_list (pv 0) pe_int (fun _ _ => rfl)) pe_int) (pg_sub (pv 0) pe_int set_list))
        (pss_one (ps_asg (pe_op op_fdiv (pe_op op_powW (pe_op op_add (pe_op op_add (pe_op op_mul pe_int (pe_ix ix_list (pv 0) pe_int (fun _ _ => rfl))) pe_int)
          (pe_op op_mod (pe_ix ix_list (pv 0) pe_int (fun _ _ => rfl)) (pe_op op_pow pe_int pe_int))) pe_int) pe_int) (pg_sub (pv 0) pe_int set_list)))) pss_nil)
      (pss_cons (ps_set (i := 2) scDip.nd rfl (Or.inl rfl) (pe_ix ix_list (pv 0) pe_int (fun _ _ => rfl)))
      (pss_cons (ps_asg (pe_op op_fdivW (pv 2) (pv 1)) (pg_sub (pv 0) pe_int set_list))
      (pss_one (ps_ret (pe_op op_mod (pv 2) (pv 1)))))), ?_⟩
    have at0 : ∀ {a b c : Int}, atI [V.int a, V.int b, V.int c] 0 = some (V.int a) := atI_nat (j := 0) rfl
    have at1 : ∀ {a b c : Int}, atI [V.int a, V.int b, V.int c] 1 = some (V.int b) := atI_nat (j := 1) rfl
    have at2 : ∀ {a b c : Int}, atI [V.int a, V.int b, V.int c] 2 = some (V.int c) := atI_nat (j := 2) rfl
    -- the end, from whatever stands in the pail
    have fin : ∀ (H1 : Hp) (a b : Int), H1 p = some (.lst [.int a, .int b, .int z]) → (∀ o, upd H1 p o = upd H p o) → 0 ≤ a → a < 2 ^ 1400 → 0 ≤ b → b ≤ n + 1 →
        ∃ v, [some (V.ref p), some (V.int m), none][0]? = some (some v) ∧ ∃ p' xs i v', v = .ref p' ∧ V.int 0 = .int i ∧ SqL K H1 p' xs ∧ atI xs i = some v' ∧
          tSeq (tAsg (tOp (rI CDivW fun i j => .int (i / j)) (tVar 2) (tVar 1)) (gSub (tVar 0) (tC (.int 0)) rSetL)) (tRet (tOp (rI (fun _ j => 0 < j) fun i j => .int (i % j)) (tVar 2) (tVar 1)))
            { nx := fun _ H' => Q .non H', rt := Q } ([some (V.ref p), some (V.int m), none].set 2 (some v')) H1 := by
      intro H1 a b h1 hu a0 a1 b0 b1
      refine ⟨_, rfl, p, _, _, _, rfl, rfl, SqL.of h1, at0, ?_⟩
      have dv : CDivW a m := wide_div (b := 300) m0 (by omega) (by decide) (by decide)
      refine ⟨_, rfl, _, rfl, _, _, rfl, rfl, dv, ?_⟩
      refine ⟨_, rfl, p, _, _, 0, rfl, rfl, h1, rfl, ?_⟩
      refine ⟨_, rfl, _, rfl, _, _, rfl, rfl, m0, ?_⟩
      have e : upd H1 p (.lst ([V.int a, .int b, .int z].set 0 (.int (a / m)))) = upd H p (.lst [.int (a / m), .int b, .int z]) := hu _
      rw [e]
      have q0 : 0 ≤ a / m := Int.ediv_nonneg a0 (Int.le_of_lt m0)
      have q1 : a / m ≤ a := Int.ediv_le_self _ a0
      exact k (a / m) b (a % m) (Int.emod_nonneg _ (by omega)) (Int.emod_lt_of_pos _ m0) ⟨q0, by omega, b0, by omega, by omega, z0, z1⟩
    refine ⟨_, rfl, p, _, _, _, rfl, rfl, SqL.of hp, at0, rfl, _, rfl, ?_⟩
    by_cases hx : V.int x = V.int 0
    · rw [decide_eq_true hx]
      refine iteT ?_
      refine ⟨_, rfl, p, _, _, _, rfl, rfl, SqL.of hp, at1, _, _, rfl, rfl, _, rfl, p, _, _, 1, rfl, rfl, hp, rfl, ?_⟩
      have g1 : upd H p (.lst ([V.int x, .int y, .int z].set 1 (.int (y + 1)))) p = some (.lst [.int x, .int (y + 1), .int z]) := upd_same
      obtain ⟨f0, f1⟩ := fill_lt (y := y + 1) (z := z) (by omega) (by omega) z0
      refine ⟨_, rfl, p, _, _, _, rfl, rfl, SqL.of g1, at1, _, _, rfl, rfl, .inl ⟨by decide, by decide⟩, _, _, rfl, rfl, ?_⟩
      refine ⟨_, rfl, p, _, _, _, rfl, rfl, SqL.of g1, at2, _, _, rfl, rfl, ⟨by decide, by decide, by decide⟩, _, _, rfl, rfl, (by show (0 : Int) < 10 ^ (Int.toNat 30); decide), _, _, rfl, rfl, ?_⟩
      have pw : CPowW (991 * (y + 1) + 3533 + z % 10 ^ 30) 13 := ⟨by decide, by decide, Nat.lt_of_lt_of_le (PySem.Flt.log2_lt_of (show 0 < 100 by decide) (show _ < 2 ^ 100 by omega)) (by decide)⟩
      refine ⟨_, _, rfl, rfl, pw, _, _, rfl, rfl, ⟨by decide, by decide⟩, ?_⟩
      refine ⟨_, rfl, p, _, _, 0, rfl, rfl, g1, rfl, ?_⟩
      obtain ⟨e0, e1⟩ := fill13 f0 f1
      exact fin _ ((991 * (y + 1) + 3533 + z % 10 ^ 30) ^ 13 / 7) (y + 1) upd_same (fun o => by rw [upd_upd, upd_upd]) e0 e1 (by omega) (by omega)
    · rw [decide_eq_false hx]
      refine iteF ?_
      exact fin H x y hp (fun o => rfl) x0 x1 y0 (by omega)
end

def spPail (K : PySem.W.Frag) : Sp := fun vs H Q _ => ∃ (a : Addr) (ns : List Int), vs = [.ref a] ∧ SqL K H a (ns.map V.int) ∧ ns.length ≤ 63 ∧
  ∀ (p : Addr) (H' : Hp) (z : Int), Same H H' → H p = none → H' p = some (.lst [.int z, .int 0, .int z]) → Pail z 0 z 0 → Q (.ref p) H'
theorem cut_mem {xs : List V} {lo hi : Option Int} {i : Nat} {x : V} (h : (cutV xs lo hi)[i]? = some x) : x ∈ xs :=
  List.mem_of_mem_drop (List.mem_of_mem_take (List.mem_of_getElem? h))
theorem cut_len {xs : List V} {lo hi : Option Int} : (cutV xs lo hi).length ≤ xs.length := by
  unfold cutV
  rw [List.length_take, List.length_drop]
  omega
/-- how great the sum is behind i cells -/
def lim (i : Nat) : Int := 1218 ^ i * 10 ^ 42
theorem lim_step {i : Nat} {z a b : Int} (h0 : 0 ≤ z) (h : z ≤ lim i) (a0 : 0 ≤ a) (a1 : a < 10 ^ 40) (b0 : 0 ≤ b) (b1 : b ≤ 1) : 0 ≤ z * 1217 + a + 10 ^ 41 * b ∧ z * 1217 + a + 10 ^ 41 * b ≤ lim (i + 1) := by
  have p : (1 : Int) ≤ 1218 ^ i := by
    have := powLe (a := 1) (b := 1218) (by decide) (by decide) i
    rwa [Int.one_pow] at this
  have q : (10 ^ 42 : Int) ≤ lim i := by
    unfold lim
    have := Int.mul_le_mul_of_nonneg_right p (show (0 : Int) ≤ 10 ^ 42 by decide)
    omega
  have r : lim (i + 1) = 1218 * lim i := by
    unfold lim
    rw [Int.pow_succ, Int.mul_comm (1218 ^ i) 1218, Int.mul_assoc]
  have c : (10 ^ 41 : Int) * b ≤ 10 ^ 41 * 1 := Int.mul_le_mul_of_nonneg_left b1 (by decide)
  have d : (0 : Int) ≤ 10 ^ 41 * b := Int.mul_nonneg (by decide) b0
  rw [r]
  constructor <;> omega
theorem lim_all {i : Nat} (h : i ≤ 63) : lim i < 2 ^ 1000 := by
  have a : (1218 : Int) ^ i ≤ 1218 ^ 63 := by
    have e : (1218 : Int) ^ 63 = 1218 ^ i * 1218 ^ (63 - i) := by
      rw [← Int.pow_add]
      congr 1
      omega
    have p : (1 : Int) ≤ 1218 ^ (63 - i) := by
      have := powLe (a := 1) (b := 1218) (by decide) (by decide) (63 - i)
      rwa [Int.one_pow] at this
    rw [e]
    have n : (0 : Int) ≤ 1218 ^ i := Int.pow_nonneg (by decide)
    have := Int.mul_le_mul_of_nonneg_left p n
    omega
  have b : (1218 : Int) ^ 63 * 10 ^ 42 < 2 ^ 1000 := by decide +kernel
  have c := Int.mul_le_mul_of_nonneg_right a (show (0 : Int) ≤ 10 ^ 42 by decide)
  unfold lim
  omega

section
variable {P : Program} {w : World} {K : PySem.W.Frag} {mg : Str → Option Value} {base : Heap} {f : Addr} {fd : FuncData}
theorem scPail : FnScope ["_law_script", "_law_whole", "_law_cell"] ["_law_script"] (defScope sCrate) := ⟨rfl, rfl, rfl, by decide +kernel, rfl, by decide +kernel, by decide +kernel⟩
theorem ok_pail (G : Glob mg) (F : DefAt K "_law_crate" "_law_crate" sCrate f fd) : FnOk P w K mg base CX0 1 f fd ["_law_script"] (spPail K) := by
  refine okN F scPail (fun vs H Q E h => ?_) (fun cdv A outer s H vs Q E hr h => ?_)
  · obtain ⟨a, ns, rfl, _⟩ := h
    rfl
  · obtain ⟨a, ns, rfl, hS, hl, k⟩ := h
    refine ⟨_, pss_cons (ps_set (i := 1) scPail.nd rfl (Or.inl rfl) pe_int)
      (pss_cons (ps_for PassesOwn.never rfl (pi_list (pe_slice sl_list (pv 0) po_none (po_some pe_int))) (pg_name (i := 2) scPail.nd rfl (Or.inl rfl))
        (pss_one (ps_set (i := 1) scPail.nd rfl (Or.inl rfl)
          (pe_op op_add (pe_op op_add (pe_op op_mul (pv 1) pe_int)
            (pe_op op_mod (pe_callB call_abs (by rfl) G.abs (by decide +kernel) (pa_cons (pe_callTy call_int1 (by rfl) G.int (by decide +kernel) (pa_cons (pv 2) pa_nil)) pa_nil)) (pe_op op_pow pe_int pe_int)))
            (pe_op op_mul (pe_op op_pow pe_int pe_int) (pe_callTy call_int1 (by rfl) G.int (by decide +kernel) (pa_cons (pe_cmpR op_lt (pv 2) pe_int (nomark _)) pa_nil)))))))
      (pss_one (ps_ret (pe_lst (pa_cons (pv 1) (pa_cons pe_int (pa_cons (pv 1) pa_nil))))))), ?_⟩
    refine ⟨_, rfl, ?_⟩
    refine ⟨40, rfl, a, _, rfl, hS, fun p0 np0 => ?_⟩
    have s0 : Same H (upd H p0 (.lst (cutV (ns.map V.int) none (some 40)))) := fun b o e => by rw [upd_ne (ne_of_none e np0)]; exact e
    have lc : (cutV (ns.map V.int) none (some 40)).length ≤ 63 := by
      refine Nat.le_trans cut_len ?_
      rw [List.length_map]
      exact hl
    refine ⟨p0, rfl, ⟨_, SqL.of upd_same⟩, for_list (K := K) (a := p0) (xs := cutV (ns.map V.int) none (some 40))
      (fun i σ H2 => ∃ (z : Int) (v : Option V), σ = [some (.ref a), some (.int z), v] ∧ H2 = upd H p0 (.lst (cutV (ns.map V.int) none (some 40))) ∧ 0 ≤ z ∧ z ≤ lim i)
      ⟨61, none, rfl, rfl, by decide, by decide +kernel⟩ (fun i σ H2 _ ⟨z, v, _, e, _⟩ => by rw [e]; exact SqL.of upd_same) ?_ ?_⟩
    · rintro i y σ H2 hi ⟨z, v, rfl, rfl, z0, z1⟩
      obtain ⟨n, _, rfl⟩ := List.mem_map.mp (cut_mem hi)
      refine ⟨_, rfl, _, _, rfl, rfl, .inr ⟨by decide, by decide⟩, ?_⟩
      refine ⟨_, rfl, .inl ⟨_, rfl, _, rfl, ?_⟩⟩
      refine ⟨_, _, rfl, rfl, ⟨by decide, by decide, by decide⟩, _, _, rfl, rfl, (by show (0 : Int) < 10 ^ (Int.toNat 40); decide), _, _, rfl, rfl, ?_⟩
      refine ⟨_, _, rfl, rfl, ⟨by decide, by decide, by decide⟩, _, rfl, _, _, rfl, rfl, .inr ⟨_, rfl, ?_⟩⟩
      refine ⟨_, _, rfl, rfl, .inr ?_, _, _, rfl, rfl, ?_⟩
      · by_cases hn : n < 0
        · rw [decide_eq_true hn]; exact ⟨by decide, by decide⟩
        · rw [decide_eq_false hn]; exact ⟨by decide, by decide⟩
      · refine ⟨_, _, rfl, rfl, ?_⟩
        have b01 : (0 : Int) ≤ (if decide (n < 0) = true then 1 else 0) ∧ (if decide (n < 0) = true then (1 : Int) else 0) ≤ 1 := by
          by_cases hn : n < 0
          · rw [decide_eq_true hn]; exact ⟨by decide, by decide⟩
          · rw [decide_eq_false hn]; exact ⟨by decide, by decide⟩
        exact lim_step z0 z1 (Int.emod_nonneg _ (by decide)) (Int.emod_lt_of_pos _ (by decide)) b01.1 b01.2
    · rintro σ H2 ⟨z, v, rfl, rfl, z0, z1⟩
      refine ⟨_, rfl, _, rfl, (by show 3 ≤ sizeLine; decide), fun p hp => ?_⟩
      have hl2 := lim_all lc
      refine k p _ z (fun b o e => by rw [upd_ne (ne_of_none (s0 _ _ e) hp)]; exact s0 _ _ e) (s0.free hp) upd_same ⟨z0, by omega, by decide, by decide, by decide, z0, by omega⟩
end
/-- the tub stands at p; n draws at most were made -/
def TubAt (H : Hp) (p : Addr) (n : Nat) : Prop := ∃ x y z : Int, H p = some (.lst [.int x, .int y, .int z]) ∧ Pail x y z n
/-- all but p stands as it stood -/
def Keep (p : Addr) (H H' : Hp) : Prop := ∀ c o, c ≠ p → H c = some o → H' c = some o
theorem Keep.refl (p : Addr) (H : Hp) : Keep p H H := fun _ _ _ e => e
theorem Keep.trans {p : Addr} {H H1 H2 : Hp} (a : Keep p H H1) (b : Keep p H1 H2) : Keep p H H2 := fun c o n e => b c o n (a c o n e)
theorem Same.keep {p : Addr} {H H' : Hp} (s : Same H H') : Keep p H H' := fun c o _ e => s c o e
theorem TubAt.same {H H' : Hp} {p : Addr} {n : Nat} (s : Same H H') (h : TubAt H p n) : TubAt H' p n := let ⟨x, y, z, e, q⟩ := h; ⟨x, y, z, s _ _ e, q⟩
theorem TubAt.mono {H : Hp} {p : Addr} {n m : Nat} (h : TubAt H p n) (l : n ≤ m) (hm : m ≤ 10000) : TubAt H p m := let ⟨x, y, z, e, a, b, c, d, f, g⟩ := h; ⟨x, y, z, e, a, b, c, by omega, hm, g⟩
theorem TubAt.ne {H : Hp} {p a : Addr} {n : Nat} (h : TubAt H p n) (e : H a = none) : a ≠ p := by
  obtain ⟨x, y, z, e1, _⟩ := h
  intro z; rw [z, e1] at e; cases e
theorem TubAt.free {H H' : Hp} {p a : Addr} {n : Nat} (k : Keep p H H') (h : TubAt H' p n) (e : H' a = none) : H a = none := by
  cases q : H a with
  | none => rfl
  | some o => rw [k a o (h.ne e) q] at e; cases e
theorem TubAt.upd {H : Hp} {p a : Addr} {n : Nat} {o : HO} (h : TubAt H p n) (e : a ≠ p) : TubAt (upd H a o) p n := let ⟨x, y, z, e1, q⟩ := h; ⟨x, y, z, by rw [upd_ne (Ne.symm e)]; exact e1, q⟩
theorem dip_of {H : Hp} {p : Addr} {n : Nat} {m : Int} {Q : VK} {E : XK} (h : TubAt H p n) (hn : n < 10000) (m0 : 0 < m) (m1 : m < 2 ^ 300) (k : ∀ r H', 0 ≤ r → r < m → TubAt H' p (n + 1) → Keep p H H' → Q (.int r) H') : spDip [.ref p, .int m] H Q E := by
  obtain ⟨x, y, z, e, q⟩ := h
  exact ⟨p, x, y, z, m, n, rfl, e, q, hn, m0, m1, fun x' y' r a b c => k r _ a b ⟨x', y', z, upd_same, c⟩ fun d o ne e => by rw [upd_ne ne]; exact e⟩
theorem dip_c {σ : L2.St} {i : Nat} {H : Hp} {p : Addr} {n : Nat} {m : Int} {Q : VK} {E : XK} (hv : σ[i]? = some (some (.ref p))) (h : TubAt H p n) (hn : n < 10000) (m0 : 0 < m) (m1 : m < 2 ^ 300) (k : ∀ r H', 0 ≤ r → r < m → TubAt H' p (n + 1) → Keep p H H' → Q (.int r) H') :
    tCall spDip [] E (tCons (tVar i) (tCons (tC (.int m)) tNil)) σ H Q := ⟨_, hv, dip_of (E := E) h hn m0 m1 k⟩
theorem dip_v {σ : L2.St} {i j : Nat} {H : Hp} {p : Addr} {n : Nat} {m : Int} {Q : VK} {E : XK} (hv : σ[i]? = some (some (.ref p))) (hj : σ[j]? = some (some (.int m))) (h : TubAt H p n) (hn : n < 10000) (m0 : 0 < m) (m1 : m < 2 ^ 300) (k : ∀ r H', 0 ≤ r → r < m → TubAt H' p (n + 1) → Keep p H H' → Q (.int r) H') :
    tCall spDip [] E (tCons (tVar i) (tCons (tVar j) tNil)) σ H Q := ⟨_, hv, _, hj, dip_of (E := E) h hn m0 m1 k⟩
structure HasHaul (P : Program) (w : World) (K : PySem.W.Frag) (mg : Str → Option Value) (base : Heap) : Prop where
  h : ∃ f fd, mg "_law_haul" = some (.ref f) ∧ PySem.W.keepIn K (.ref f) = true ∧ Binds K fd ["_law_crate_here", "_law_many"] [] ∧ FnOk P w K mg base CX0 1 f fd ["_law_crate_here", "_law_many"] spDip
end K2

/-! _law_value. -/
namespace K2
open PySem PySem.Spec PyProof.Rows L2 K1 LamX

/-- what stands now where nothing stood -/
def neu (H H' : Hp) : Hp := fun b => if H b = none then H' b else none
theorem neu_same {H H' : Hp} : Same (neu H H') H' := fun b o e => by
  unfold neu at e
  split at e
  · exact e
  · cases e
theorem neu_of {H H' : Hp} {b : Addr} (h : H b = none) : neu H H' b = H' b := if_pos h
/-- how many draws a value of so many levels takes, at most -/
def cost : Nat → Nat
  | 0 => 3
  | d + 1 => 3 * cost d + 3
theorem cost_ge (d : Nat) : 3 ≤ cost d := by cases d <;> simp only [cost] <;> omega
def spVal (C : Addr) (d : Nat) : Sp := fun vs H Q _ => ∃ (p : Addr) (n : Nat), vs = [.ref p, .int (d : Int)] ∧ TubAt H p n ∧ n + cost d ≤ 10000 ∧ ∀ v t H', TubAt H' p (n + cost d) → Keep p H H' → Tr C (neu H H') d v t → Sml d t → Q v H'
abbrev NVal : List Str := ["_law_crate_here", "_law_depth", "_law_way", "_law_plain", "_law_at", "_law_parts", "_law_keys", "_law_made", "_law_key", "_law_turn"]
theorem way_c {σ : L2.St} {H : Hp} {p : Addr} {n d : Nat} {Q : VK} {E : XK} (h0 : σ[0]? = some (some (.ref p))) (h1 : σ[1]? = some (some (.int (d : Int)))) (h : TubAt H p n) (hn : n < 10000) (k : ∀ r H', 0 ≤ r → r < 4 → (d = 0 → r = 0) → TubAt H' p (n + 1) → Keep p H H' → Q (.int r) H') :
    tCall spDip [] E (tCons (tVar 0) (tCons (tIf (tTest (tOp (rI0 fun i j => V.bl (decide (j < i))) (tVar 1) (tC (.int 0)))) (tC (.int 4)) (tC (.int 1))) tNil)) σ H Q := by
  refine ⟨_, h0, _, h1, _, _, rfl, rfl, _, rfl, ?_⟩
  by_cases hd : d = 0
  · subst hd
    exact dip_of (E := E) h hn (by decide) (by decide +kernel) fun r H' r0 r1 t1 k1 => k r H' r0 (by omega) (fun _ => by omega) t1 k1
  · rw [decide_eq_true (show (0 : Int) < (d : Int) by omega)]
    exact dip_of (E := E) h hn (by decide) (by decide +kernel) fun r H' r0 r1 t1 k1 => k r H' r0 r1 (fun z => absurd z hd) t1 k1
theorem cons_step {ta : TE} {tr : TA} {σ : L2.St} {H : Hp} {Q : List V → Hp → Prop} (h : ta σ H fun x H1 => tr σ H1 fun xs H2 => Q (x :: xs) H2) : tCons ta tr σ H Q := h
theorem mk_two {K : PySem.W.Frag} {C CB : Addr} {σ : L2.St} {H : Hp} {t b : Int} {Q : VK} {E : XK} (b0 : b ≠ 0) (st : Sm 8000 t) (sb : Sm 8000 b) (q : New C H t b Q) : tMake C (spRI K C CB) [] E (tCons (tC (.int t)) (tCons (tC (.int b)) tNil)) σ H Q := mk_new b0 st sb q
theorem mk_neg {K : PySem.W.Frag} {C CB : Addr} {σ : L2.St} {H : Hp} {t : Int} {Q : VK} {E : XK} (st : Sm 8000 (-t)) (q : New C H (-t) 1 Q) : tMake C (spRI K C CB) [V.int 1] E (tCons (tUn (rU fun i => V.int (-i)) (tC (.int t))) tNil) σ H Q := ⟨t, rfl, mk_new (by decide) st (Sm.one (by decide)) q⟩
/-- what stands in the list of plain values -/
def plains (x1 x2 : Addr) : List V := [.non, .bl true, .bl false, .str "a", .str "", .str "b1", .int 0, .int 1, .int (-7), .ref x1, .ref x2]
theorem rat_sml : (Sm 100 (rT 3 2) ∧ Sm 100 (rB 3 2) ∧ 0 < rB 3 2) ∧ (Sm 100 (rT (-4) 1) ∧ Sm 100 (rB (-4) 1) ∧ 0 < rB (-4) 1) := by
  unfold Sm
  decide +kernel
theorem plain_at {C : Addr} {H : Hp} {x1 x2 : Addr} (d : Nat) {a : Int} (a0 : 0 ≤ a) (a1 : a < 11) (h1 : RatAt C H x1 (rT 3 2) (rB 3 2)) (h2 : RatAt C H x2 (rT (-4) 1) (rB (-4) 1)) : ∃ v t, atI (plains x1 x2) a = some v ∧ Tr C H d v t ∧ Sml d t := by
  have z : a = 0 ∨ a = 1 ∨ a = 2 ∨ a = 3 ∨ a = 4 ∨ a = 5 ∨ a = 6 ∨ a = 7 ∨ a = 8 ∨ a = 9 ∨ a = 10 := by omega
  rcases z with rfl | rfl | rfl | rfl | rfl | rfl | rfl | rfl | rfl | rfl | rfl
  · exact ⟨_, .non, rfl, Tr.mono (Nat.zero_le _) rfl, Sml.mono (Nat.zero_le _) (show Sml 0 .non from trivial)⟩
  · exact ⟨_, .bl true, rfl, Tr.mono (Nat.zero_le _) rfl, Sml.mono (Nat.zero_le _) (show Sml 0 (.bl true) from trivial)⟩
  · exact ⟨_, .bl false, rfl, Tr.mono (Nat.zero_le _) rfl, Sml.mono (Nat.zero_le _) (show Sml 0 (.bl false) from trivial)⟩
  · exact ⟨_, .str "a", rfl, Tr.mono (Nat.zero_le _) rfl, Sml.mono (Nat.zero_le _) (show (reprText "a").length ≤ 100 by decide +kernel)⟩
  · exact ⟨_, .str "", rfl, Tr.mono (Nat.zero_le _) rfl, Sml.mono (Nat.zero_le _) (show (reprText "").length ≤ 100 by decide +kernel)⟩
  · exact ⟨_, .str "b1", rfl, Tr.mono (Nat.zero_le _) rfl, Sml.mono (Nat.zero_le _) (show (reprText "b1").length ≤ 100 by decide +kernel)⟩
  · exact ⟨_, .int 0, rfl, Tr.mono (Nat.zero_le _) rfl, Sml.mono (Nat.zero_le _) (show Sm 200 0 by unfold Sm; decide +kernel)⟩
  · exact ⟨_, .int 1, rfl, Tr.mono (Nat.zero_le _) rfl, Sml.mono (Nat.zero_le _) (show Sm 200 1 by unfold Sm; decide +kernel)⟩
  · exact ⟨_, .int (-7), rfl, Tr.mono (Nat.zero_le _) rfl, Sml.mono (Nat.zero_le _) (show Sm 200 (-7) by unfold Sm; decide +kernel)⟩
  · exact ⟨_, .rat (rT 3 2) (rB 3 2), rfl, Tr.mono (Nat.zero_le _) ⟨x1, rfl, h1⟩, Sml.mono (Nat.zero_le _) rat_sml.1⟩
  · exact ⟨_, .rat (rT (-4) 1) (rB (-4) 1), rfl, Tr.mono (Nat.zero_le _) ⟨x2, rfl, h2⟩, Sml.mono (Nat.zero_le _) rat_sml.2⟩
theorem neu_rat {C : Addr} {H H' : Hp} {x : Addr} {t b : Int} (hx : H x = none) (r : RatAt C H' x t b) : RatAt C (neu H H') x t b := let ⟨dx, h⟩ := r; ⟨dx, by rw [neu_of hx]; exact h⟩
theorem _root_.K1.RatAt.ref' {C : Addr} {p x : Addr} {H H' : Hp} {t b : Int} (r : RatAt C H x t b) (k : Keep p H H') (ne : x ≠ p) : RatAt C H' x t b := let ⟨dx, h⟩ := r; ⟨dx, k _ _ ne h⟩
theorem rng_c {σ : L2.St} {H : Hp} {p : Addr} {n : Nat} {E : XK} {R : It → Hp → Prop} (h0 : σ[0]? = some (some (.ref p))) (h : TubAt H p n) (hn : n < 10000) (k : ∀ (m : Nat) H', m < 4 → TubAt H' p (n + 1) → Keep p H H' → R (Itr 0 m) H') :
    iRng1 (tCons (tCall spDip [] E (tCons (tVar 0) (tCons (tC (.int 4)) tNil))) tNil) σ H R := by
  refine dip_c (E := E) h0 h hn (by decide) (by decide +kernel) fun r H' r0 r1 t1 k1 => ?_
  exact ⟨r, rfl, by omega, by omega, k r.toNat H' (by omega) t1 k1⟩
/-- the call for a part -/
theorem val_c {C : Addr} {σ : L2.St} {H : Hp} {p : Addr} {n e : Nat} {Q : VK} {E : XK} (h0 : σ[0]? = some (some (.ref p))) (h1 : σ[1]? = some (some (.int ((e + 1 : Nat) : Int)))) (h : TubAt H p n) (hn : n + cost e ≤ 10000) (k : ∀ v t H', TubAt H' p (n + cost e) → Keep p H H' → Tr C (neu H H') e v t → Sml e t → Q v H') :
    tCall (spVal C e) [] E (tCons (tVar 0) (tCons (tOp (rI0 fun i j => V.int (i - j)) (tVar 1) (tC (.int 1))) tNil)) σ H Q := by
  refine ⟨_, h0, _, h1, _, _, rfl, rfl, ?_⟩
  show spVal C e [.ref p, .int (((e + 1 : Nat) : Int) - 1)] H Q E
  rw [show (((e + 1 : Nat) : Int) - 1) = (e : Int) by omega]
  exact ⟨p, n, rfl, h, hn, k⟩
theorem neu_keep {p D : Addr} {H H3 H4 : Hp} {o : HO} (k : Keep p H3 H4) (hp : H p ≠ none) : Same (hide D (neu H H3)) (hide D (neu H (upd H4 D o))) := fun b u e => by
  obtain ⟨e1, e2⟩ := hide_of e
  unfold neu at e2
  split at e2
  · next hb =>
    rw [hide_ne e1]
    unfold neu
    rw [if_pos hb, upd_ne e1]
    exact k _ _ (fun z => hp (z ▸ hb)) e2
  · cases e2
theorem neu_new {p D : Addr} {H H3 H4 : Hp} {o ob : HO} (k : Keep p H H3) (hp : H3 p ≠ none) (hD : H3 D = some ob) : Same (neu H3 H4) (hide D (neu H (upd H4 D o))) := fun b u e => by
  unfold neu at e
  split at e
  · next hb =>
    have bD : b ≠ D := fun z => by rw [z, hD] at hb; cases hb
    have hb0 : H b = none := by
      cases q : H b with
      | none => rfl
      | some w =>
        have bp : b ≠ p := fun z => hp (z ▸ hb)
        rw [k _ _ bp q] at hb
        cases hb
    rw [hide_ne bD]
    unfold neu
    rw [if_pos hb0, upd_ne bD]
    exact e
  · cases e
theorem TubAt.some {H : Hp} {p : Addr} {n : Nat} (h : TubAt H p n) : H p ≠ none := by
  obtain ⟨x, y, z, e, _⟩ := h
  rw [e]
  exact fun z => nomatch z
theorem AllI.snoc {R : V → T → Prop} {vs : List V} {ts : List T} {v : V} {t : T} (h : AllI R vs ts) (r : R v t) : AllI R (vs ++ [v]) (ts ++ [t]) := by
  refine ⟨by rw [List.length_append, List.length_append, h.1]; rfl, fun i w u e1 e2 => ?_⟩
  rcases Nat.lt_or_ge i vs.length with z | z
  · rw [List.getElem?_append_left z] at e1
    rw [List.getElem?_append_left (h.1 ▸ z)] at e2
    exact h.2 i w u e1 e2
  · rw [List.getElem?_append_right z] at e1
    rw [List.getElem?_append_right (h.1 ▸ z)] at e2
    have q : i - vs.length = 0 := by
      rcases Nat.eq_zero_or_pos (i - vs.length) with q | q
      · exact q
      · rw [List.getElem?_eq_none (by simp; omega)] at e1; cases e1
    rw [← h.1, q] at e2
    rw [q] at e1
    obtain rfl : v = w := by simpa using e1
    obtain rfl : t = u := by simpa using e2
    exact r
theorem AllE.snoc {R : V → T → Prop} {vs : List (Key × V)} {ts : List (Key × T)} {k : Key} {v : V} {t : T} (h : AllE R vs ts) (r : R v t) : AllE R (vs ++ [(k, v)]) (ts ++ [(k, t)]) := by
  refine ⟨by rw [List.map_append, List.map_append, h.1]; rfl, fun i w u e1 e2 => ?_⟩
  have hl := AllE.len h
  rcases Nat.lt_or_ge i vs.length with z | z
  · rw [List.getElem?_append_left z] at e1
    rw [List.getElem?_append_left (hl ▸ z)] at e2
    exact h.2 i w u e1 e2
  · rw [List.getElem?_append_right z] at e1
    rw [List.getElem?_append_right (hl ▸ z)] at e2
    have q : i - vs.length = 0 := by
      rcases Nat.eq_zero_or_pos (i - vs.length) with q | q
      · exact q
      · rw [List.getElem?_eq_none (by simp; omega)] at e1; cases e1
    rw [← hl, q] at e2
    rw [q] at e1
    obtain rfl : (k, v) = w := by simpa using e1
    obtain rfl : (k, t) = u := by simpa using e2
    exact r
theorem putK_new {ws : List (Key × V)} {k : Key} {v : V} (h : k ∉ ws.map (·.1)) : putK ws k v = ws ++ [(k, v)] := by
  unfold putK
  rw [if_neg]
  intro z
  obtain ⟨q, hq, e⟩ := List.any_eq_true.mp z
  exact h (List.mem_map.mpr ⟨q, hq, of_decide_eq_true e⟩)
theorem nodup_get {α : Type} : ∀ {l : List α} {i j : Nat} {a : α}, l.Nodup → l[i]? = some a → l[j]? = some a → i = j
  | [], _, _, _, _, e, _ => by simp at e
  | b :: l, 0, 0, _, _, _, _ => rfl
  | b :: l, 0, j + 1, a, h, e1, e2 => by
    simp at e1 e2
    subst e1
    exact absurd (List.mem_of_getElem? e2) (List.nodup_cons.mp h).1
  | b :: l, i + 1, 0, a, h, e1, e2 => by
    simp at e1 e2
    subst e2
    exact absurd (List.mem_of_getElem? e1) (List.nodup_cons.mp h).1
  | b :: l, i + 1, j + 1, a, h, e1, e2 => by
    exact congrArg (· + 1) (nodup_get (l := l) (i := i) (j := j) (a := a) (List.nodup_cons.mp h).2 (by simpa using e1) (by simpa using e2))
/-- the four families of keys -/
def famK : List (List Key) := [[.inr "b", .inr "a", .inr "c"], [.inr "z9", .inr "z10", .inr "a"], [.inl 10, .inl 9, .inl (-1)], [.inl 2, .inl 100, .inl 11]]
theorem famK_ok : ∀ ks ∈ famK, ∀ j : Nat, j < 3 → KeysOk (ks.drop j) := by
  intro ks h j hj
  have z : j = 0 ∨ j = 1 ∨ j = 2 := by omega
  simp only [famK, List.mem_cons, List.not_mem_nil, or_false] at h
  rcases h with rfl | rfl | rfl | rfl
  · exact .inl (by rcases z with rfl | rfl | rfl; exact ⟨["b", "a", "c"], by decide +kernel, rfl⟩; exact ⟨["a", "c"], by decide +kernel, rfl⟩; exact ⟨["c"], by decide +kernel, rfl⟩)
  · exact .inl (by rcases z with rfl | rfl | rfl; exact ⟨["z9", "z10", "a"], by decide +kernel, rfl⟩; exact ⟨["z10", "a"], by decide +kernel, rfl⟩; exact ⟨["a"], by decide +kernel, rfl⟩)
  · exact .inr (by rcases z with rfl | rfl | rfl; exact ⟨[10, 9, -1], by decide +kernel, rfl⟩; exact ⟨[9, -1], by decide +kernel, rfl⟩; exact ⟨[-1], by decide +kernel, rfl⟩)
  · exact .inr (by rcases z with rfl | rfl | rfl; exact ⟨[2, 100, 11], by decide +kernel, rfl⟩; exact ⟨[100, 11], by decide +kernel, rfl⟩; exact ⟨[11], by decide +kernel, rfl⟩)
section
variable {P : Program} {w : World} {K : PySem.W.Frag} {mg : Str → Option Value} {base : Heap} {f C CB : Addr} {fd : FuncData}
theorem scVal : FnScope NVal ["_law_crate_here", "_law_depth"] (defScope sValue) := ⟨rfl, rfl, rfl, by decide +kernel, rfl, by decide +kernel, by decide +kernel⟩
theorem ok_value_of {d : Nat} {spr : Sp} (G : Glob mg) (R : RatF K C) (MR : MkR P w K mg base C CB) (HS : HasHaul P w K mg base) (F : DefAt K "_law_value" "_law_value" sValue f fd) (mf : mg "_law_value" = some (.ref f)) (kf : PySem.W.keepIn K (.ref f) = true) (bf : Binds K fd ["_law_crate_here", "_law_depth"] [])
    (FR : FnOk P w K mg base CX0 (d + 4) f fd ["_law_crate_here", "_law_depth"] spr) (hrec : ∀ d', d = d' + 1 → spr = spVal C d') : FnOk P w K mg base CX0 (d + 5) f fd ["_law_crate_here", "_law_depth"] (spVal C d) := by
  obtain ⟨fs, fds, mS, kS, bS, GS⟩ := HS.h
  obtain ⟨fm, fdm, ds, M, GM, bM2, hv, bM⟩ := MR.m
  refine okN F scVal (fun vs H Q E ⟨_, _, e, _⟩ => by rw [e]; rfl) (fun cdv A outer s H vs Q E hr ⟨p, n, e, tub, hn, q⟩ => ?_)
  subst e
  have hr1 := hr.mono (show 1 ≤ d + 4 by omega)
  refine ⟨_, pss_cons (ps_set (i := 2) scVal.nd rfl (Or.inl rfl) (pe_call GS hr1 rfl mS kS bS .nil pass0 (pa_cons (pv 0) (pa_cons (pe_ifExp (pt_cmpR op_gt (pv 1) pe_int (nomark _)) pe_int pe_int) pa_nil))))
    (pss_cons (ps_if (pt_cmpR op_eq (pv 2) pe_int (nomark _))
      (pss_cons (ps_set (i := 3) scVal.nd rfl (Or.inl rfl) (pe_lst (pa_cons pe_non (pa_cons pe_bl (pa_cons pe_bl (pa_cons pe_str (pa_cons pe_str (pa_cons pe_str (pa_cons pe_int (pa_cons pe_int (pa_cons (pe_un un_neg pe_int)
        (pa_cons (pe_make M GM (hr.mono (show 4 ≤ d + 4 by omega)) rfl MR.g bM2 .nil passL (pa_cons pe_int (pa_cons pe_int pa_nil))) (pa_cons (pe_make M GM (hr.mono (show 4 ≤ d + 4 by omega)) rfl MR.g bM hv passL (pa_cons (pe_un un_neg pe_int) pa_nil)) pa_nil)))))))))))))
      (pss_cons (ps_set (i := 4) scVal.nd rfl (Or.inl rfl) (pe_call GS hr1 rfl mS kS bS .nil pass0 (pa_cons (pv 0) (pa_cons pe_int pa_nil))))
      (pss_one (ps_ret (pe_ifExp (pt_cmpR op_lt (pv 4) pe_int (nomark _)) (pe_ix ix_list (pv 3) (pv 4) (fun _ _ => rfl)) (pe_call GS hr1 rfl mS kS bS .nil pass0 (pa_cons (pv 0) (pa_cons (pe_op op_pow pe_int pe_int) pa_nil)))))))) pss_nil)
    (pss_cons (ps_if (pt_cmpR op_lt (pv 2) pe_int (nomark _))
      (pss_cons (ps_setLc (i := 5) (own := [("_law_turn", 9)]) (g := gName 9) (tt := tYes) rfl scVal.nd rfl rfl rfl (pi_range1 (by rfl) G.range (pa_cons (pe_call GS hr1 rfl mS kS bS .nil pass0 (pa_cons (pv 0) (pa_cons pe_int pa_nil))) pa_nil)) (blkOk_by (N := NVal) (sc := defScope sValue) (by decide +kernel))
          (fun _ _ _ _ _ => pg_name (i := 9) scVal.nd rfl (Or.inl rfl)) (fun _ _ _ _ _ => pts_nil) (fun _ _ _ _ _ => pe_call FR hr rfl mf kf bf .nil pass0 (pa_cons (pv 0) (pa_cons (pe_op op_sub (pv 1) pe_int) pa_nil))))
      (pss_one (ps_ret (pe_ifExp (pt_cmpR op_eq (pv 2) pe_int (nomark _)) (pv 5) (pe_tupleOf (by rfl) G.tup (pv 5)))))) pss_nil)
    (pss_cons (ps_set (i := 6) scVal.nd rfl (Or.inl rfl) (pe_ix ix_list (pe_lst (pa_cons (pe_lst (pa_cons pe_str (pa_cons pe_str (pa_cons pe_str pa_nil)))) (pa_cons (pe_lst (pa_cons pe_str (pa_cons pe_str (pa_cons pe_str pa_nil))))
        (pa_cons (pe_lst (pa_cons pe_int (pa_cons pe_int (pa_cons (pe_un un_neg pe_int) pa_nil)))) (pa_cons (pe_lst (pa_cons pe_int (pa_cons pe_int (pa_cons pe_int pa_nil)))) pa_nil))))) (pe_call GS hr1 rfl mS kS bS .nil pass0 (pa_cons (pv 0) (pa_cons pe_int pa_nil))) (fun _ _ => rfl)))
    (pss_cons (ps_set (i := 7) scVal.nd rfl (Or.inl rfl) pe_dnewK)
    (pss_cons (ps_for PassesOwn.never rfl (pi_list (pe_slice sl_list (pv 6) (po_some (pe_call GS hr1 rfl mS kS bS .nil pass0 (pa_cons (pv 0) (pa_cons pe_int pa_nil)))) po_none)) (pg_name (i := 8) scVal.nd rfl (Or.inl rfl))
      (pss_one (ps_dput (hu_of hr) (pv 7) (pv 8) (pe_call FR hr rfl mf kf bf .nil pass0 (pa_cons (pv 0) (pa_cons (pe_op op_sub (pv 1) pe_int) pa_nil))) rfl)))
    (pss_one (ps_ret (pv 7)))))))), ?_⟩
  refine way_c rfl rfl tub (by have := cost_ge d; omega) fun way H1 w0 w1 wd t1 k1 => ?_
  have cg := cost_ge d
  have line : (1000 : Nat) < sizeLine := by decide +kernel
  refine ⟨_, rfl, rfl, _, rfl, ?_⟩
  by_cases hw : way = 0
  · subst hw
    rw [decide_eq_true rfl]
    refine iteT ?_
    refine ⟨7, rfl, ?_⟩
    refine cons_step (mk_two (by decide) (by unfold Sm; decide +kernel) (by unfold Sm; decide +kernel) fun x1 H2 s2 hx1 ra => ?_)
    refine cons_step (mk_neg (by unfold Sm; decide +kernel) fun x2 H3 s3 hx2 rb => ?_)
    refine ⟨(by show 11 ≤ sizeLine; omega), fun l hl => ?_⟩
    have t3 : TubAt (upd H3 l (.lst (plains x1 x2))) p (n + 1) := (t1.same (s2.trans s3)).upd ((t1.same (s2.trans s3)).ne hl)
    have k3 : Keep p H1 (upd H3 l (.lst (plains x1 x2))) := Same.keep ((s2.trans s3).trans (upd_new hl))
    have n1 : H x1 = none := TubAt.free k1 t1 hx1
    have n2 : H x2 = none := TubAt.free k1 t1 (s2.free hx2)
    have p1 : x1 ≠ p := t1.ne hx1
    have p2 : x2 ≠ p := t1.ne (s2.free hx2)
    have pl : l ≠ p := t1.ne ((s2.trans s3).free hl)
    refine dip_c (i := 0) rfl t3 (by omega) (by decide) (by decide +kernel) fun a H4 a0 a1 t4 k4 => ?_
    have k04 : Keep p H H4 := (k1.trans k3).trans k4
    have ra4 : RatAt C (neu H H4) x1 _ _ := neu_rat n1 (((ra.same s3).same (upd_new hl)).ref' k4 p1)
    have rb4 : RatAt C (neu H H4) x2 _ _ := neu_rat n2 ((rb.same (upd_new hl)).ref' k4 p2)
    refine ⟨_, rfl, _, _, rfl, rfl, _, rfl, ?_⟩
    by_cases ha : a < 11
    · rw [decide_eq_true ha]
      obtain ⟨v, t, ev, rv, sv⟩ := plain_at d a0 ha ra4 rb4
      exact iteT ⟨_, rfl, _, rfl, l, _, a, v, rfl, rfl, SqL.of (k4 _ _ pl upd_same), ev, q v t H4 (t4.mono (by omega) hn) k04 rv sv⟩
    · rw [decide_eq_false ha]
      refine iteF ⟨_, rfl, 10, 30, rfl, rfl, ⟨by decide, by decide, by decide⟩, ?_⟩
      exact dip_of (E := E0) t4 (by omega) (by decide) (by decide +kernel) fun b H5 b0 b1 t5 k5 => q (.int b) (.int b) H5 (t5.mono (by omega) hn) (k04.trans k5) (Tr.mono (Nat.zero_le _) rfl) (Sml.mono (Nat.zero_le _) (show Sm 200 b from by
        have : (10 : Int) ^ (Int.toNat 30) < 2 ^ 200 := by decide +kernel
        unfold Sm
        have e : ((2 ^ 200 : Nat) : Int) = 2 ^ 200 := by decide +kernel
        omega))
  · rw [decide_eq_false (show ¬ V.int way = V.int 0 from fun e => hw (V.int.inj e))]
    refine iteF ?_
    obtain ⟨e, rfl⟩ : ∃ e, d = e + 1 := ⟨d - 1, by
      have : d ≠ 0 := fun z => hw (wd z)
      omega⟩
    obtain rfl := hrec e rfl
    have ce : cost (e + 1) = 3 * cost e + 3 := rfl
    refine ⟨_, rfl, _, _, rfl, rfl, _, rfl, ?_⟩
    by_cases hw3 : way < 3
    · rw [decide_eq_true hw3]
      refine iteT ?_
      refine seq_asg ?_
      refine rng_c rfl t1 (by omega) fun m H2 hm t2 k2 => ?_
      intro D hD
      have pD : D ≠ p := t2.ne hD
      have k02 : Keep p H H2 := k1.trans k2
      have nD : H D = none := TubAt.free k02 t2 hD
      refine lc_range (lo := 0) (n := m) (fun i H3 => ∃ vs ts, TubAt H3 p (n + 1 + 1 + i * cost e) ∧ Keep p H2 H3 ∧ H3 D = some (.lst vs) ∧ vs.length = i ∧ AllI (Tr C (hide D (neu H H3)) e) vs ts ∧ ∀ t ∈ ts, Sml e t)
        ⟨[], [], (t2.upd pD).mono (by omega) (by omega), Same.keep (upd_new hD), upd_same, rfl, ⟨rfl, fun i v t e => by simp at e⟩, fun t h => by simp at h⟩ ?_ ?_
      · rintro i H3 hi ⟨vs, ts, t3, k3, h3, hl, al, sm⟩
        refine ⟨rfl, yes_of ?_⟩
        have hic : i * cost e + cost e ≤ 3 * cost e := by
          have := Nat.mul_le_mul_right (cost e) (show i + 1 ≤ 3 by omega)
          rw [Nat.succ_mul] at this
          exact this
        refine val_c rfl rfl t3 (by omega) fun v t H4 t4 k4 rv sv => ?_
        have h4 := k4 _ _ pD h3
        refine ⟨vs, h4, by omega, vs ++ [v], ts ++ [t], (t4.upd pD).mono (by rw [Nat.succ_mul]; omega) (by rw [Nat.succ_mul]; omega), fun c o ne z => ?_, upd_same, by rw [List.length_append, hl]; rfl, ?_, fun u hu => ?_⟩
        · rw [upd_ne (ne_of_none z hD)]
          exact k4 _ _ ne (k3 _ _ ne z)
        · exact (AllI.mono al fun _ _ _ _ z => z.same (neu_keep k4 tub.some)).snoc (rv.same (neu_new (k02.trans k3) t3.some h3))
        · rcases List.mem_append.mp hu with z | z
          · exact sm u z
          · exact List.mem_singleton.mp z ▸ sv
      · rintro H3 ⟨vs, ts, t3, k3, h3, hl, al, sm⟩
        have hic : m * cost e ≤ 3 * cost e := Nat.mul_le_mul_right _ (by omega)
        have l4 : ts.length ≤ 4 := by rw [← al.1]; omega
        have k03 : Keep p H H3 := k02.trans k3
        refine ⟨_, rfl, rfl, _, rfl, ?_⟩
        by_cases hw1 : V.int way = V.int 1
        · rw [decide_eq_true hw1]
          refine iteT ⟨_, rfl, q (.ref D) (.lst ts) H3 (t3.mono (by omega) (by omega)) k03 ?_ ⟨l4, sm⟩⟩
          exact ⟨D, vs, rfl, by rw [neu_of nD]; exact h3, al.mono fun _ _ _ _ z => z.same hide_same⟩
        · rw [decide_eq_false hw1]
          refine iteF ⟨_, rfl, .inl ⟨D, vs, rfl, SqL.of h3, fun u hu => ?_⟩⟩
          have pu : u ≠ p := t3.ne hu
          have nu : H u = none := TubAt.free k03 t3 hu
          refine q (.ref u) (.tup ts) _ ((t3.upd pu).mono (by omega) (by omega)) (fun c o ne z => by rw [upd_ne (ne_of_none (k03 _ _ ne z) hu)]; exact k03 _ _ ne z) ?_ ⟨l4, sm⟩
          refine ⟨u, vs, rfl, by rw [neu_of nu]; exact upd_same, al.mono fun _ _ _ _ z => z.same (hide_same.trans fun b o z => ?_)⟩
          unfold neu at z ⊢
          split at z
          · next hb => rw [if_pos hb, upd_ne (ne_of_none z hu)]; exact z
          · cases z
    · rw [decide_eq_false hw3]
      refine iteF ?_
      refine ⟨(by show 3 ≤ sizeLine; omega), fun l1 n1 => ⟨(by show 3 ≤ sizeLine; omega), fun l2 n2 => ⟨1, rfl, (by show 3 ≤ sizeLine; omega), fun l3 n3 => ⟨(by show 3 ≤ sizeLine; omega), fun l4 n4 => ⟨(by show 4 ≤ sizeLine; omega), fun L nL => ?_⟩⟩⟩⟩⟩
      have u1 := upd_new (o := .lst [.str "b", .str "a", .str "c"]) n1
      have u2 := upd_new (o := .lst [.str "z9", .str "z10", .str "a"]) n2
      have u3 := upd_new (o := .lst [.int 10, .int 9, .int (-1)]) n3
      have tbl : ∀ r : Int, 0 ≤ r → r < 4 → ∃ l ks, ks ∈ famK ∧ l ≠ p ∧ atI [V.ref l1, .ref l2, .ref l3, .ref l4] r = some (.ref l) ∧ (upd (upd (upd (upd H1 l1 (.lst [.str "b", .str "a", .str "c"])) l2 (.lst [.str "z9", .str "z10", .str "a"])) l3 (.lst [.int 10, .int 9, .int (-1)])) l4 (.lst [.int 2, .int 100, .int 11])) l = some (.lst (ks.map kV)) := by
        intro r r0 r1
        have z : r = 0 ∨ r = 1 ∨ r = 2 ∨ r = 3 := by omega
        rcases z with rfl | rfl | rfl | rfl
        · exact ⟨l1, [.inr "b", .inr "a", .inr "c"], .head _, t1.ne n1, rfl, upd_new n4 _ _ (u3 _ _ (u2 _ _ upd_same))⟩
        · exact ⟨l2, [.inr "z9", .inr "z10", .inr "a"], .tail _ (.head _), (t1.same u1).ne n2, rfl, upd_new n4 _ _ (u3 _ _ upd_same)⟩
        · exact ⟨l3, [.inl 10, .inl 9, .inl (-1)], .tail _ (.tail _ (.head _)), (t1.same (u1.trans u2)).ne n3, rfl, upd_new n4 _ _ upd_same⟩
        · exact ⟨l4, [.inl 2, .inl 100, .inl 11], .tail _ (.tail _ (.tail _ (.head _))), (t1.same ((u1.trans u2).trans u3)).ne n4, rfl, upd_same⟩
      have s4 := (((upd_new (o := .lst [.str "b", .str "a", .str "c"]) n1).trans (upd_new (o := .lst [.str "z9", .str "z10", .str "a"]) n2)).trans (upd_new (o := .lst [.int 10, .int 9, .int (-1)]) n3)).trans (upd_new (o := .lst [.int 2, .int 100, .int 11]) n4)
      revert tbl s4 nL
      generalize (upd (upd (upd (upd H1 l1 (.lst [.str "b", .str "a", .str "c"])) l2 (.lst [.str "z9", .str "z10", .str "a"])) l3 (.lst [.int 10, .int 9, .int (-1)])) l4 (.lst [.int 2, .int 100, .int 11])) = H2
      intro nL tbl s2
      have sL := upd_new (o := .lst [V.ref l1, .ref l2, .ref l3, .ref l4]) nL
      have tL := (t1.same s2).same sL
      have pL : L ≠ p := (t1.same s2).ne nL
      refine dip_c (i := 0) rfl tL (by omega) (by decide) (by decide +kernel) fun r H3 r0 r1 t3 k3 => ?_
      obtain ⟨l, ks, hks, pl, hat, hl⟩ := tbl r r0 r1
      have hl3 : H3 l = some (.lst (ks.map kV)) := k3 _ _ pl (sL _ _ hl)
      have k03 : Keep p H H3 := (k1.trans (Same.keep (s2.trans sL))).trans k3
      refine ⟨L, _, r, _, rfl, rfl, SqL.of (k3 _ _ pL upd_same), hat, ?_⟩
      intro M hM
      have pM : M ≠ p := t3.ne hM
      have nM : H M = none := TubAt.free k03 t3 hM
      have sM := upd_new (o := .dK []) hM
      have tM := t3.same sM
      refine ⟨_, rfl, ?_⟩
      refine dip_c (i := 0) rfl tM (by omega) (by decide) (by decide +kernel) fun c H4 c0 c1 t4 k4 => ?_
      have k34 : Keep p H3 H4 := (Same.keep sM).trans k4
      refine ⟨c, rfl, l, _, rfl, SqL.of (k34 _ _ pl hl3), fun S hS => ?_⟩
      obtain ⟨j, rfl⟩ : ∃ j : Nat, c = (j : Int) := ⟨c.toNat, by omega⟩
      have hj : j < 3 := by omega
      have kok := famK_ok ks hks j hj
      have ln : j ≤ (ks.map kV).length := by
        have := kok.len.2
        rw [List.length_drop] at this
        rw [List.length_map]
        omega
      rw [cut_drop ln, ← List.map_drop]
      generalize ks.drop j = zs at kok
      have k04 : Keep p H H4 := k03.trans k34
      have pS : S ≠ p := t4.ne hS
      have hM4 : H4 M = some (.dK []) := k4 _ _ pM upd_same
      have nSM : M ≠ S := by rintro rfl; rw [hM4] at hS; cases hS
      have zl := kok.len.1
      refine ⟨S, rfl, ⟨_, SqL.of upd_same⟩, ?_⟩
      refine for_list (K := K) (a := S) (xs := zs.map kV) (fun i σ H5 => ∃ ws kvs s8, σ = [some (.ref p), some (.int ((e + 1 : Nat) : Int)), some (.int way), none, none, none, some (.ref l), some (.ref M), s8, none] ∧ TubAt H5 p (n + 1 + 1 + 1 + i * cost e) ∧ Keep p H H5 ∧ H5 S = some (.lst (zs.map kV)) ∧ H5 M = some (.dK ws) ∧ kvs.map (·.1) = zs.take i ∧ AllE (Tr C (hide M (neu H H5)) e) ws kvs ∧ ∀ q ∈ kvs, Sml e q.2)
        ⟨[], [], none, rfl, (t4.upd pS).mono (by omega) (by omega), fun c o ne z => by rw [upd_ne (ne_of_none (k04 _ _ ne z) hS)]; exact k04 _ _ ne z, upd_same, by rw [upd_ne nSM]; exact hM4, rfl, ⟨rfl, fun i p q e1 e2 => by simp at e1⟩, fun q hq => by simp at hq⟩ (fun i σ H5 _ ⟨_, _, _, _, _, _, z, _⟩ => SqL.of z) ?_ ?_
      · rintro i x σ H5 hx ⟨ws, kvs, s8, rfl, t5, k5, h5, m5, kk, al, sm⟩
        rw [List.getElem?_map] at hx
        obtain ⟨k, hk, rfl⟩ := Option.map_eq_some_iff.mp hx
        have hi := (List.getElem?_eq_some_iff.mp hk).1
        have hic : i * cost e + cost e ≤ 3 * cost e := by
          have := Nat.mul_le_mul_right (cost e) (show i + 1 ≤ 3 by omega)
          rw [Nat.succ_mul] at this
          exact this
        refine val_c rfl rfl t5 (by omega) fun v t H6 t6 k6 rv sv => ?_
        have m6 := k6 _ _ pM m5
        have wk : ws.map (·.1) = zs.take i := by rw [al.1, kk]
        have wl : ws.length ≤ 3 := by
          have := congrArg List.length wk
          rw [List.length_map, List.length_take] at this
          omega
        have nk : k ∉ ws.map (·.1) := by
          rw [wk]
          intro z
          obtain ⟨i', hi'⟩ := List.getElem?_of_mem z
          rw [List.getElem?_take] at hi'
          split at hi'
          · next hlt =>
            have := nodup_get kok.ordP.2.1 hi' hk
            omega
          · cases hi'
        refine ⟨_, rfl, _, rfl, M, _, rfl, DPut.k m6 (by omega), ?_⟩
        rw [putK_new nk]
        refine ⟨ws ++ [(k, v)], kvs ++ [(k, t)], _, rfl, (t6.upd pM).mono (by rw [Nat.succ_mul]; omega) (by rw [Nat.succ_mul]; omega), fun c o ne z => ?_, ?_, upd_same, ?_, ?_, fun u hu => ?_⟩
        · rw [upd_ne (ne_of_none z nM)]
          exact k6 _ _ ne (k5 _ _ ne z)
        · rw [upd_ne nSM.symm]
          exact k6 _ _ pS h5
        · rw [List.map_append, kk]
          obtain ⟨b1, b2⟩ := List.getElem?_eq_some_iff.mp hk
          rw [List.take_succ_eq_append_getElem b1, b2]
          rfl
        · exact (AllE.mono al fun _ _ _ _ z => z.same (neu_keep k6 tub.some)).snoc (rv.same (neu_new k5 t5.some m5))
        · rcases List.mem_append.mp hu with z | z
          · exact sm u z
          · exact List.mem_singleton.mp z ▸ sv
      · rintro σ H5 ⟨ws, kvs, s8, rfl, t5, k5, h5, m5, kk, al, sm⟩
        have hic : (zs.map kV).length * cost e ≤ 3 * cost e := Nat.mul_le_mul_right _ (by rw [List.length_map]; exact zl)
        rw [List.length_map, List.take_length] at kk
        refine ⟨_, rfl, q (.ref M) (.dct kvs) H5 (t5.mono (by omega) (by omega)) k5 ?_ ⟨by rw [kk]; exact kok, sm⟩⟩
        exact ⟨M, ws, rfl, by rw [neu_of nM]; exact m5, AllE.mono al fun _ _ _ _ z => z.same hide_same⟩
theorem ok_value (G : Glob mg) (R : RatF K C) (MR : MkR P w K mg base C CB) (HS : HasHaul P w K mg base) (F : DefAt K "_law_value" "_law_value" sValue f fd) (mf : mg "_law_value" = some (.ref f)) (kf : PySem.W.keepIn K (.ref f) = true) (bf : Binds K fd ["_law_crate_here", "_law_depth"] []) :
    ∀ d, FnOk P w K mg base CX0 (d + 5) f fd ["_law_crate_here", "_law_depth"] (spVal C d)
  | 0 => ok_value_of G R MR HS F mf kf bf fn_no fun _ e => nomatch e
  | d + 1 => ok_value_of G R MR HS F mf kf bf (ok_value G R MR HS F mf kf bf d) fun d' e => by injection e with e; rw [e]
end
end K2

/-! _law_same. -/
namespace K2
open PySem PySem.Spec PyProof.Rows L2 K1 LamX

/-- fixed, leaves small, no more than a hundred items -/
def Lsm : Nat → T → Prop
  | _, .non => True
  | _, .bl _ => True
  | _, .int n => Sm 200 n
  | _, .str s => (reprText s).length ≤ 100
  | _, .rat x y => Sm 100 x ∧ Sm 100 y
  | 0, .tup _ => False
  | d + 1, .tup ts => ts.length ≤ 100 ∧ ∀ t ∈ ts, Lsm d t
  | _, .lst _ => False
  | _, .dct _ => False
theorem Lsm.of : ∀ {d : Nat} {t : T}, Sml d t → isFx t = true → Lsm d t := by
  intro d
  induction d with
  | zero =>
    intro t h f
    cases t with
    | rat x y => exact ⟨h.1, h.2.1⟩
    | lst ts => exact h.elim
    | tup ts => exact h.elim
    | dct ts => exact h.elim
    | _ => exact h
  | succ d ih =>
    intro t h f
    cases t with
    | rat x y => exact ⟨h.1, h.2.1⟩
    | lst ts => rw [isFx] at f; cases f
    | dct ts => rw [isFx] at f; cases f
    | tup ts =>
      rw [isFx, isFxL_all] at f
      exact ⟨Nat.le_trans h.1 (by decide), fun t ht => ih (h.2 t ht) (f t ht)⟩
    | _ => exact h
def spSame (C : Addr) (d : Nat) : Sp := fun vs H Q _ => ∃ v v' t, vs = [v, v'] ∧ Tr C H d v t ∧ Tr C H d v' t ∧ Lsm d t ∧ ∀ H', Same H H' → Q (.bl true) H'

/-- the text of a plain value -/
inductive AtomText : V → Str → Prop
  | non : AtomText .non "None"
  | bl (b : Bool) : AtomText (.bl b) (if b then "True" else "False")
  | int {n : Int} (h : n.natAbs.log2 < 1920) : AtomText (.int n) (toString n)
  | str {x : Str} (h : (reprText x).length ≤ sizeLine) : AtomText (.str x) (reprText x)
theorem call_reprA {X : Cx} : CallR X (.builtin "repr") (fun xs H Q => ∃ v x, xs = [v] ∧ AtomText v x ∧ Q (.str x) H) := by
  intro pins s σ H xs us Q I r ⟨v, x, e, h, q⟩
  subst e
  obtain ⟨u, rfl, ru⟩ := Vals.one r
  cases h with
  | non =>
    obtain rfl : u = Value.none := ru
    exact PySem.P.repr_of_none ⟨.str _, H, I.tok _, ⟨_, rfl⟩, q⟩
  | bl b =>
    obtain rfl : u = Value.bool b := ru
    exact PySem.P.repr_of_bool ⟨.str _, H, I.tok _, ⟨_, rfl⟩, q⟩
  | int h =>
    obtain ⟨t, rfl⟩ := ru
    exact PySem.P.repr_of_int h ⟨.str _, H, I.tok _, ⟨_, rfl⟩, q⟩
  | str h =>
    obtain ⟨t, rfl⟩ := ru
    exact PySem.P.repr_of_str ⟨.str _, H, I.tok _, ⟨_, rfl⟩, q⟩ h
/-- repr of Ratio, as a def -/
structure HasRepr (P : Program) (w : World) (K : PySem.W.Frag) (mg : Str → Option Value) (base : Heap) (C : Addr) : Prop where
  h : ∃ f fd, OwnM K C "__repr__" f ∧ Binds K fd ["self"] [] ∧ FnOk P w K mg base CX0 4 f fd ["self"] (spStr C)
theorem walk_zipT {K : PySem.W.Frag} {a b : Addr} {xs ys : List V} {n : Nat} (hn : n = min xs.length ys.length) : Walk (RZ.ItzT K a b) n (fun H => SqT K H a xs ∧ SqT K H b ys) (YPair (fun i => xs[i]?) (fun i => ys[i]?)) :=
  ⟨fun i H hi q => ⟨xs, ys, _, _, q.1, q.2, List.getElem?_eq_getElem (show i < xs.length by omega), List.getElem?_eq_getElem (show i < ys.length by omega)⟩, fun H q => ⟨xs, ys, q.1, q.2, by omega⟩, fun i H v H' hi q ⟨T, x, y, e1, e2, e3, e4, e5⟩ => ⟨T, x, y, e1, e2, e3, e4 xs q.1, e5 ys q.2⟩⟩
theorem all_true (n : Nat) : (List.replicate n true).all id = true := by induction n <;> simp_all [List.replicate]
abbrev NSame : List Str := ["_law_told", "_law_due", "_law_one", "_law_other"]
section
variable {P : Program} {w : World} {K : PySem.W.Frag} {mg : Str → Option Value} {base : Heap} {f C CB : Addr} {fd : FuncData}
theorem scSame : FnScope NSame ["_law_told", "_law_due"] (defScope sSame) := ⟨rfl, rfl, rfl, by decide +kernel, rfl, by decide +kernel, by decide +kernel⟩
theorem ok_same_of {d : Nat} {spr : Sp} (G : Glob mg) (G2 : Glob2 mg) (R : RatF K C) (RX : RatX K C) (gR : mg "Ratio" = some (.ref C)) (HR : HasRepr P w K mg base C) (F : DefAt K "_law_same" "_law_same" sSame f fd) (mf : mg "_law_same" = some (.ref f)) (kf : PySem.W.keepIn K (.ref f) = true) (bf : Binds K fd ["_law_told", "_law_due"] [])
    (FR : FnOk P w K mg base CX0 (d + 6) f fd ["_law_told", "_law_due"] spr) (hrec : ∀ d', d = d' + 1 → spr = spSame C d') : FnOk P w K mg base CX0 (d + 7) f fd ["_law_told", "_law_due"] (spSame C d) := by
  obtain ⟨fr, fdr, MR, bR, GR⟩ := HR.h
  refine okN F scSame (fun vs H Q E ⟨_, _, _, e, _⟩ => by rw [e]; rfl) (fun cdv A outer s H vs Q E hr ⟨v, v', t, e, tr, tr', sm, q⟩ => ?_)
  subst e
  refine ⟨_, pss_cons (ps_if (pt_val (pe_callB call_isi (by rfl) G.isi (by decide +kernel) (pa_cons (pv 1) (pa_cons (pe_bltn (by rfl) G.tup (by decide +kernel) (v := .ty "tuple") rfl) pa_nil))))
      (pss_cons (ps_if (PW.pt (pw_or (pt_not (pt_val (pe_callB call_isi (by rfl) G.isi (by decide +kernel) (pa_cons (pv 0) (pa_cons (pe_bltn (by rfl) G.tup (by decide +kernel) (v := .ty "tuple") rfl) pa_nil)))))
          (pw_or1 (pt_cmpR op_ne (pe_callB call_len_seq (by rfl) G.len PySem.boot_len (pa_cons (pv 0) pa_nil)) (pe_callB call_len_seq (by rfl) G.len PySem.boot_len (pa_cons (pv 1) pa_nil)) (nomark _)))))
        (pss_one (ps_ret pe_bl)) pss_nil)
      (pss_one (ps_ret (pe_callB (cr_all rfl) (by rfl) G.all (by decide +kernel) (pa_cons
          (pe_lc (own := [("_law_one", 2), ("_law_other", 3)]) (g := gTup K 2 (gCons (gName 2) (gCons (gName 3) gNil))) (tt := tYes) rfl scSame.nd (RZ.pi_zipA (by rfl) G2.zip (pa_cons (pv 0) (pa_cons (pv 1) pa_nil))) (blkOk_by (N := NSame) (sc := defScope sSame) (by decide +kernel))
            (fun _ _ _ _ _ => pg_tup (n := 2) rfl (pgs_cons (pg_name (i := 2) scSame.nd rfl (Or.inl rfl) (hf := Or.inr rfl)) (pgs_cons (pg_name (i := 3) scSame.nd rfl (Or.inl rfl) (hf := Or.inr rfl)) pgs_nil))) (fun _ _ _ _ _ => pts_nil) (fun _ _ _ _ _ => pe_call FR hr rfl mf kf bf .nil pass0 (pa_cons (pv 2) (pa_cons (pv 3) pa_nil)))) pa_nil))))) pss_nil)
    (pss_one (ps_ret (pe_and (pe_cmpR op_eq (pe_callB call_isi (by rfl) G.isi (by decide +kernel) (pa_cons (pv 0) (pa_cons (pe_glob (v := .ref C) rfl gR rfl) pa_nil))) (pe_callB call_isi (by rfl) G.isi (by decide +kernel) (pa_cons (pv 1) (pa_cons (pe_glob (v := .ref C) rfl gR rfl) pa_nil))) (nomark _))
      (pe_one (pe_cmpR op_eq (pe_callB (cr_both call_reprA (call_reprO MR GR (hr.mono (show 5 ≤ d + 6 by omega)) bR pass0)) (by rfl) G.repr (by decide +kernel) (pa_cons (pv 0) pa_nil)) (pe_callB (cr_both call_reprA (call_reprO MR GR (hr.mono (show 5 ≤ d + 6 by omega)) bR pass0)) (by rfl) G.repr (by decide +kernel) (pa_cons (pv 1) pa_nil)) (nomark _)))))), ?_⟩
  have line : (1000 : Nat) < sizeLine := by decide +kernel
  cases t with
  | non =>
    obtain rfl : v = V.non := tr.inv
    obtain rfl : v' = V.non := tr'.inv
    refine ⟨_, rfl, _, _, _, _, false, rfl, .ty "tuple", .base (tr'.ty R), kit_T RX _, false, rfl, iteF ?_⟩
    refine ⟨_, rfl, _, _, _, _, false, rfl, .own C, .base (tr.ty R), kit_R R _, _, rfl, _, _, _, _, false, rfl, .own C, .base (tr'.ty R), kit_R R _, rfl, true, rfl, iteT ?_⟩
    refine ⟨_, rfl, .inl ⟨_, _, rfl, .non, _, rfl, .inl ⟨_, _, rfl, .non, rfl, ?_⟩⟩⟩
    rw [decide_eq_true rfl]
    exact q H (Same.refl H)
  | bl b =>
    obtain rfl : v = V.bl b := tr.inv
    obtain rfl : v' = V.bl b := tr'.inv
    refine ⟨_, rfl, _, _, _, _, false, rfl, .ty "tuple", .base (tr'.ty R), kit_T RX _, false, rfl, iteF ?_⟩
    refine ⟨_, rfl, _, _, _, _, false, rfl, .own C, .base (tr.ty R), kit_R R _, _, rfl, _, _, _, _, false, rfl, .own C, .base (tr'.ty R), kit_R R _, rfl, true, rfl, iteT ?_⟩
    refine ⟨_, rfl, .inl ⟨_, _, rfl, (.bl b), _, rfl, .inl ⟨_, _, rfl, (.bl b), rfl, ?_⟩⟩⟩
    rw [decide_eq_true rfl]
    exact q H (Same.refl H)
  | int n =>
    obtain rfl : v = V.int n := tr.inv
    obtain rfl : v' = V.int n := tr'.inv
    refine ⟨_, rfl, _, _, _, _, false, rfl, .ty "tuple", .base (tr'.ty R), kit_T RX _, false, rfl, iteF ?_⟩
    refine ⟨_, rfl, _, _, _, _, false, rfl, .own C, .base (tr.ty R), kit_R R _, _, rfl, _, _, _, _, false, rfl, .own C, .base (tr'.ty R), kit_R R _, rfl, true, rfl, iteT ?_⟩
    refine ⟨_, rfl, .inl ⟨_, _, rfl, (.int (Nat.lt_trans (Sm.log (show Sm 200 n by cases d <;> exact sm) (by decide)) (by decide))), _, rfl, .inl ⟨_, _, rfl, (.int (Nat.lt_trans (Sm.log (show Sm 200 n by cases d <;> exact sm) (by decide)) (by decide))), rfl, ?_⟩⟩⟩
    rw [decide_eq_true rfl]
    exact q H (Same.refl H)
  | str x =>
    obtain rfl : v = V.str x := tr.inv
    obtain rfl : v' = V.str x := tr'.inv
    refine ⟨_, rfl, _, _, _, _, false, rfl, .ty "tuple", .base (tr'.ty R), kit_T RX _, false, rfl, iteF ?_⟩
    refine ⟨_, rfl, _, _, _, _, false, rfl, .own C, .base (tr.ty R), kit_R R _, _, rfl, _, _, _, _, false, rfl, .own C, .base (tr'.ty R), kit_R R _, rfl, true, rfl, iteT ?_⟩
    refine ⟨_, rfl, .inl ⟨_, _, rfl, (.str (Nat.le_trans (show (reprText x).length ≤ 100 by cases d <;> exact sm) (by omega))), _, rfl, .inl ⟨_, _, rfl, (.str (Nat.le_trans (show (reprText x).length ≤ 100 by cases d <;> exact sm) (by omega))), rfl, ?_⟩⟩⟩
    rw [decide_eq_true rfl]
    exact q H (Same.refl H)
  | rat x y =>
    have s1 : Sm 1900 x := (show Sm 100 x by cases d <;> exact sm.1).mono (by decide)
    have s2 : Sm 1900 y := (show Sm 100 y by cases d <;> exact sm.2).mono (by decide)
    obtain ⟨a, dx, rfl, g⟩ := tr.inv
    obtain ⟨a', dx', rfl, g'⟩ := tr'.inv
    refine ⟨_, rfl, _, _, _, _, false, rfl, .ty "tuple", .base (tr'.ty R), kit_T RX _, false, rfl, iteF ?_⟩
    refine ⟨_, rfl, _, _, _, _, true, rfl, .own C, .base (tr.ty R), kit_R R _, _, rfl, _, _, _, _, true, rfl, .own C, .base (tr'.ty R), kit_R R _, rfl, true, rfl, iteT ?_⟩
    refine ⟨_, rfl, .inr ⟨a, dx, _, rfl, g, a, x, y, rfl, ⟨dx, g⟩, s1, s2, _, rfl, _, rfl, .inr ⟨a', dx', _, rfl, g', a', x, y, rfl, ⟨dx', g'⟩, s1, s2, _, rfl, rfl, ?_⟩⟩⟩
    rw [decide_eq_true rfl]
    exact q H (Same.refl H)
  | lst ts => cases d <;> exact sm.elim
  | dct ts => cases d <;> exact sm.elim
  | tup ts =>
    obtain ⟨a, vs, rfl, g, e, rfl, al⟩ := tr.inv
    obtain ⟨a', vs', rfl, g', e', he', al'⟩ := tr'.inv
    obtain rfl : e' = e := by omega
    obtain rfl := hrec e' rfl
    refine ⟨_, rfl, _, _, _, _, true, rfl, .ty "tuple", .base (tr'.ty R), kit_T RX _, true, rfl, iteT ?_⟩
    refine ⟨_, rfl, _, _, _, _, true, rfl, .ty "tuple", .base (tr.ty R), kit_T RX _, true, rfl, iteF ?_⟩
    refine ⟨_, rfl, a, vs, rfl, .inr (SqT.of g), _, rfl, a', vs', rfl, .inr (SqT.of g'), rfl, false, ?_, iteF ?_⟩
    · rw [al.1, al'.1]; simp
    refine ⟨_, rfl, _, rfl, a, a', vs, vs', rfl, .inr ⟨SqT.of g, SqT.of g', fun D hD => ?_⟩⟩
    have lv : vs.length = vs'.length := by rw [al.1, al'.1]
    refine lc_it (walk_zipT (n := vs.length) (by omega)) (fun i H2 => Same H H2 ∧ H2 D = some (.lst (List.replicate i (V.bl true)))) ⟨upd_new hD, upd_same⟩ (fun i H2 _ z => ⟨SqT.of (z.1 _ _ g), SqT.of (z.1 _ _ g')⟩) ?_ ?_
    · rintro i x H2 H3 hi ⟨s2, h2⟩ ⟨T0, u, u', rfl, nT, rfl, e1, e2⟩
      have s3 := upd_new (o := .tup [u, u']) nT
      obtain ⟨t, et, rt⟩ := al.to e1
      have rt' := al'.2 i u' t e2 et
      refine ⟨T0, [u, u'], rfl, SqT.of upd_same, rfl, u, [u'], rfl, u', [], rfl, rfl, ?_⟩
      refine ⟨rfl, yes_of ⟨_, rfl, _, rfl, u, u', t, rfl, rt.same (s2.trans s3), rt'.same (s2.trans s3), sm.2 t (List.mem_of_getElem? et), fun H4 s4 => ?_⟩⟩
      refine ⟨_, s4 _ _ (s3 _ _ h2), by rw [List.length_replicate]; have := sm.1; have := al.1; omega, fun c o z => ?_, ?_⟩
      · rw [upd_ne (ne_of_none z hD)]
        exact s4 _ _ (s3 _ _ (s2 _ _ z))
      · rw [upd_same, List.replicate_succ']
    · rintro H2 ⟨s2, h2⟩
      refine ⟨D, List.replicate vs.length true, rfl, SqL.of (by rw [h2, List.map_replicate]), ?_⟩
      rw [all_true]
      exact q H2 s2
theorem ok_same (G : Glob mg) (G2 : Glob2 mg) (R : RatF K C) (RX : RatX K C) (gR : mg "Ratio" = some (.ref C)) (HR : HasRepr P w K mg base C) (F : DefAt K "_law_same" "_law_same" sSame f fd) (mf : mg "_law_same" = some (.ref f)) (kf : PySem.W.keepIn K (.ref f) = true) (bf : Binds K fd ["_law_told", "_law_due"] []) :
    ∀ d, FnOk P w K mg base CX0 (d + 7) f fd ["_law_told", "_law_due"] (spSame C d)
  | 0 => ok_same_of G G2 R RX gR HR F mf kf bf fn_no fun _ e => nomatch e
  | d + 1 => ok_same_of G G2 R RX gR HR F mf kf bf (ok_same G G2 R RX gR HR F mf kf bf d) fun d' e => by injection e with e; rw [e]
end
end K2

/-! _law_spoil, _law_paper, _law_turned. -/
namespace K2
open PySem PySem.Spec PyProof.Rows L2 K1 LamX

/-- all but a stands as it stood -/
def But (a : Addr) (H H' : Hp) : Prop := ∀ b o, b ≠ a → H b = some o → H' b = some o
def spSpoil (C : Addr) (K : PySem.W.Frag) : Sp := fun vs H Q _ => ∃ v, vs = [v] ∧
  ((∃ a xs, v = .ref a ∧ H a = some (.lst xs) ∧ xs.length ≤ 100 ∧ ∀ H' ys, But a H H' → H' a = some (.lst ys) → ys.length ≤ xs.length + 1 → Q .non H') ∨
   (∃ a ws, v = .ref a ∧ H a = some (.dK ws) ∧ ws.length ≤ 100 ∧ ∀ H' ws', But a H H' → H' a = some (.dK ws') → ws'.length = ws.length → Q .non H') ∨
   (∃ t, TyOf K H v t ∧ PySem.W.kitOne K t (.type "list") = some false ∧ PySem.W.kitOne K t (.type "dict") = some false ∧ Q .non H))
theorem putK_keys {ws : List (Key × V)} {k : Key} {v : V} (h : k ∈ ws.map (·.1)) : (putK ws k v).map (·.1) = ws.map (·.1) := by
  unfold putK
  rw [if_pos, List.map_map]
  · refine List.map_congr_left fun q _ => ?_
    show (if q.1 = k then (q.1, v) else q).1 = q.1
    split <;> rfl
  obtain ⟨q, hq, e⟩ := List.mem_map.mp h
  exact List.any_eq_true.mpr ⟨q, hq, decide_eq_true e⟩
theorem But.upd {a : Addr} {H H' : Hp} {o : HO} (h : But a H H') : But a H (upd H' a o) := fun b u ne e => by rw [upd_ne ne]; exact h b u ne e
theorem But.refl {a : Addr} {H : Hp} : But a H H := fun _ _ _ e => e
section
variable {P : Program} {w : World} {K : PySem.W.Frag} {mg : Str → Option Value} {base : Heap} {f C CP CD : Addr} {fd : FuncData}
theorem scSpoil : FnScope ["_law_value_here", "_law_key"] ["_law_value_here"] (defScope sSpoil) := ⟨rfl, rfl, rfl, by decide +kernel, rfl, by decide +kernel, by decide +kernel⟩
theorem ok_spoil (G : Glob mg) (G2 : Glob2 mg) (F : DefAt K "_law_spoil" "_law_spoil" sSpoil f fd) : FnOk P w K mg base CX0 1 f fd ["_law_value_here"] (spSpoil C K) := by
  refine okN F scSpoil (fun vs H Q E ⟨_, e, _⟩ => by rw [e]; rfl) (fun cdv A outer s H vs Q E hr ⟨v, e, h⟩ => ?_)
  subst e
  refine ⟨_, pss_one (ps_if (pt_val (pe_callB call_isi (by rfl) G.isi (by decide +kernel) (pa_cons (pv 0) (pa_cons (pe_bltn (by rfl) G.lst (by decide +kernel) (v := .ty "list") rfl) pa_nil))))
      (pss_one (ps_expr (pe_bm PySem.F.plainAttrs_list PySem.F.slot_list_append PySem.F.type_list_append mt_append (pv 0) (pa_cons pe_str pa_nil))))
      (pss_one (ps_if (pt_val (pe_callB call_isi (by rfl) G.isi (by decide +kernel) (pa_cons (pv 0) (pa_cons (pe_bltn (by rfl) G2.dict (by decide +kernel) (v := .ty "dict") rfl) pa_nil))))
        (pss_one (ps_for PassesOwn.never rfl (pi_list (pe_slice sl_list (pe_callTy (call_listD rfl) (by rfl) G.lst (by decide +kernel) (pa_cons (pv 0) pa_nil)) po_none (po_some pe_int))) (pg_name (i := 1) scSpoil.nd rfl (Or.inl rfl))
          (pss_one (ps_dput (hu_of hr) (pv 0) (pv 1) pe_str rfl)))) pss_nil))), ?_⟩
  have line : (1000 : Nat) < sizeLine := by decide +kernel
  rcases h with ⟨a, xs, rfl, g, l, q⟩ | ⟨a, ws, rfl, g, l, q⟩ | ⟨t, ty, k1, k2, q⟩
  · refine ⟨_, rfl, _, _, _, _, true, rfl, .ty "list", .base (.lst g), kit_ty (by decide +kernel), true, rfl, iteT ?_⟩
    exact ⟨_, rfl, .inl ⟨rfl, _, SqL.of g⟩, a, xs, _, rfl, rfl, g, by omega, q _ _ But.refl.upd upd_same (by rw [List.length_append]; exact Nat.le_refl _)⟩
  · refine ⟨_, rfl, _, _, _, _, false, rfl, .ty "list", .base (.dK g), kit_ty (by decide +kernel), false, rfl, iteF ?_⟩
    refine ⟨_, rfl, _, _, _, _, true, rfl, .ty "dict", .base (.dK g), kit_ty (by decide +kernel), true, rfl, iteT ?_⟩
    refine ⟨_, rfl, a, ws, rfl, .of g, fun l1 n1 => ?_⟩
    have s1 := upd_new (o := .lst (ws.map fun kv => kV kv.1)) n1
    refine ⟨1, rfl, l1, _, rfl, SqL.of upd_same, fun s2 n2 => ?_⟩
    have s2' := upd_new (o := .lst (cutV (ws.map fun kv => kV kv.1) none (some 1))) n2
    have nsa : s2 ≠ a := by rintro rfl; rw [s1 _ _ g] at n2; cases n2
    refine ⟨s2, rfl, ⟨_, SqL.of upd_same⟩, ?_⟩
    refine for_list (K := K) (a := s2) (xs := cutV (ws.map fun kv => kV kv.1) none (some 1)) (fun i σ H2 => ∃ ws' o1, σ = [some (.ref a), o1] ∧ But a H H2 ∧ H2 a = some (.dK ws') ∧ ws'.map (·.1) = ws.map (·.1) ∧ H2 s2 = some (.lst (cutV (ws.map fun kv => kV kv.1) none (some 1))))
      ⟨ws, _, rfl, fun b o _ e => s2' _ _ (s1 _ _ e), s2' _ _ (s1 _ _ g), rfl, upd_same⟩ (fun i σ H2 _ ⟨_, _, _, _, _, _, z⟩ => SqL.of z) ?_ ?_
    · rintro i x σ H2 hx ⟨ws', o1, rfl, bt, ha, hk, hs⟩
      obtain ⟨kv, hkv, rfl⟩ := List.mem_map.mp (cut_mem hx)
      have km : kv.1 ∈ ws'.map (·.1) := by rw [hk]; exact List.mem_map.mpr ⟨kv, hkv, rfl⟩
      have wl : ws'.length = ws.length := by have := congrArg List.length hk; simpa using this
      refine ⟨_, rfl, _, rfl, a, _, rfl, DPut.k ha (by omega), ?_⟩
      exact ⟨_, _, rfl, bt.upd, upd_same, by rw [putK_keys km, hk], by rw [upd_ne nsa]; exact hs⟩
    · rintro σ H2 ⟨ws', o1, rfl, bt, ha, hk, hs⟩
      exact q H2 ws' bt ha (by have := congrArg List.length hk; simpa using this)
  · exact ⟨_, rfl, _, _, _, _, false, rfl, .ty "list", .base ty, k1, false, rfl, iteF ⟨_, rfl, _, _, _, _, false, rfl, .ty "dict", .base ty, k2, false, rfl, iteF q⟩⟩

/-! _law_paper -/
def spMkP (C CP CD : Addr) : Sp := fun vs H Q _ => ∃ (k : Int) (wd : Str) (L : Addr) (us : List V) (ts : List T) (d : Nat), vs = [.int k, .str wd, .ref L] ∧ (k = 0 ∨ k = 1) ∧ H L = some (.lst us) ∧ AllI (Tr C H d) us ts ∧ ts.length ≤ 3 ∧ (∀ t ∈ ts, Sml d t) ∧ d ≤ 8 ∧
  ∀ x H', Same H H' → H x = none → PapAt C (if k = 0 then CP else CD) H' x wd (fix (.tup ts)) → Q (.ref x) H'
/-- Paper, Denial, as they are made -/
structure HasPap (P : Program) (w : World) (K : PySem.W.Frag) (mg : Str → Option Value) (base : Heap) (C CP : Addr) (nm : Str) : Prop where
  g : mg nm = some (.ref CP)
  ne : CP ≠ C
  m : ∃ f, Mk K CP f ∧ FnR P w K mg base CX0 12 f (spStar C CP)
theorem AllI.nilI {R : V → T → Prop} {ts : List T} (h : AllI R [] ts) : ts = [] := List.length_eq_zero_iff.mp h.1.symm
theorem scMkP : FnScope ["_law_kind", "_law_word", "_law_parts"] ["_law_kind", "_law_word", "_law_parts"] (defScope sPaper) := ⟨rfl, rfl, rfl, by decide +kernel, rfl, by decide +kernel, by decide +kernel⟩
theorem ok_mkp (G : Glob mg) (HP : HasPap P w K mg base C CP "Paper") (HD : HasPap P w K mg base C CD "Denial") (F : DefAt K "_law_paper" "_law_paper" sPaper f fd) : FnOk P w K mg base CX0 14 f fd ["_law_kind", "_law_word", "_law_parts"] (spMkP C CP CD) := by
  obtain ⟨fp, MP, FP⟩ := HP.m
  obtain ⟨fq, MD, FD⟩ := HD.m
  refine okN F scMkP (fun vs H Q E ⟨_, _, _, _, _, _, e, _⟩ => by rw [e]; rfl) (fun cdv A outer s H vs Q E hr ⟨k, wd, L, us, ts, d, e, hk, hL, al, hl, sm, hd, q⟩ => ?_)
  subst e
  refine ⟨_, pss_cons (ps_if (pt_cmpR op_eq (pe_callB call_len_seq (by rfl) G.len PySem.boot_len (pa_cons (pv 2) pa_nil)) pe_int (nomark _))
      (pss_one (ps_ret (pe_ifExp (pt_cmpR op_eq (pv 0) pe_int (nomark _)) (StX.pe_makeR MP FP hr rfl HP.g pass0 (pa_cons (pv 1) pa_nil)) (StX.pe_makeR MD FD hr rfl HD.g pass0 (pa_cons (pv 1) pa_nil))))) pss_nil)
    (pss_cons (ps_if (pt_cmpR op_eq (pe_callB call_len_seq (by rfl) G.len PySem.boot_len (pa_cons (pv 2) pa_nil)) pe_int (nomark _))
      (pss_one (ps_ret (pe_ifExp (pt_cmpR op_eq (pv 0) pe_int (nomark _)) (StX.pe_makeR MP FP hr rfl HP.g pass0 (pa_cons (pv 1) (pa_cons (pe_ix ix_list (pv 2) pe_int (fun _ _ => rfl)) pa_nil)))
        (StX.pe_makeR MD FD hr rfl HD.g pass0 (pa_cons (pv 1) (pa_cons (pe_ix ix_list (pv 2) pe_int (fun _ _ => rfl)) pa_nil)))))) pss_nil)
    (pss_cons (ps_if (pt_cmpR op_eq (pe_callB call_len_seq (by rfl) G.len PySem.boot_len (pa_cons (pv 2) pa_nil)) pe_int (nomark _))
      (pss_one (ps_ret (pe_ifExp (pt_cmpR op_eq (pv 0) pe_int (nomark _)) (StX.pe_makeR MP FP hr rfl HP.g pass0 (pa_cons (pv 1) (pa_cons (pe_ix ix_list (pv 2) pe_int (fun _ _ => rfl)) (pa_cons (pe_ix ix_list (pv 2) pe_int (fun _ _ => rfl)) pa_nil))))
        (StX.pe_makeR MD FD hr rfl HD.g pass0 (pa_cons (pv 1) (pa_cons (pe_ix ix_list (pv 2) pe_int (fun _ _ => rfl)) (pa_cons (pe_ix ix_list (pv 2) pe_int (fun _ _ => rfl)) pa_nil))))))) pss_nil)
    (pss_one (ps_ret (pe_ifExp (pt_cmpR op_eq (pv 0) pe_int (nomark _)) (StX.pe_makeR MP FP hr rfl HP.g pass0 (pa_cons (pv 1) (pa_cons (pe_ix ix_list (pv 2) pe_int (fun _ _ => rfl)) (pa_cons (pe_ix ix_list (pv 2) pe_int (fun _ _ => rfl)) (pa_cons (pe_ix ix_list (pv 2) pe_int (fun _ _ => rfl)) pa_nil)))))
        (StX.pe_makeR MD FD hr rfl HD.g pass0 (pa_cons (pv 1) (pa_cons (pe_ix ix_list (pv 2) pe_int (fun _ _ => rfl)) (pa_cons (pe_ix ix_list (pv 2) pe_int (fun _ _ => rfl)) (pa_cons (pe_ix ix_list (pv 2) pe_int (fun _ _ => rfl)) pa_nil)))))))))), ?_⟩
  have fin0 : k = 0 → ∀ x H', Same H H' → H x = none → PapAt C CP H' x wd (fix (.tup ts)) → Q (.ref x) H' := fun e x H' a b c => q x H' a b (by rw [if_pos e]; exact c)
  have fin1 : k = 1 → ∀ x H', Same H H' → H x = none → PapAt C CD H' x wd (fix (.tup ts)) → Q (.ref x) H' := fun e x H' a b c => q x H' a b (by rw [if_neg (by omega)]; exact c)
  match us, al.1, hL with
  | [], _, hL =>
    refine ⟨_, rfl, L, _, rfl, .inl (SqL.of hL), rfl, true, rfl, iteT ?_⟩
    rcases hk with rfl | rfl
    · exact ⟨_, rfl, rfl, true, rfl, iteT ⟨_, rfl, mk_pap HP.ne al (by omega) sm hd (fin0 rfl)⟩⟩
    · exact ⟨_, rfl, rfl, false, rfl, iteF ⟨_, rfl, mk_pap HD.ne al (by omega) sm hd (fin1 rfl)⟩⟩
  | [u0], _, hL =>
    refine ⟨_, rfl, L, _, rfl, .inl (SqL.of hL), rfl, false, rfl, iteF ?_⟩
    refine ⟨_, rfl, L, _, rfl, .inl (SqL.of hL), rfl, true, rfl, iteT ?_⟩
    rcases hk with rfl | rfl
    · exact ⟨_, rfl, rfl, true, rfl, iteT ⟨_, rfl, _, rfl, L, _, 0, _, rfl, rfl, SqL.of hL, atI_nat (j := 0) rfl, mk_pap HP.ne al (by omega) sm hd (fin0 rfl)⟩⟩
    · exact ⟨_, rfl, rfl, false, rfl, iteF ⟨_, rfl, _, rfl, L, _, 0, _, rfl, rfl, SqL.of hL, atI_nat (j := 0) rfl, mk_pap HD.ne al (by omega) sm hd (fin1 rfl)⟩⟩
  | [u0, u1], _, hL =>
    refine ⟨_, rfl, L, _, rfl, .inl (SqL.of hL), rfl, false, rfl, iteF ?_⟩
    refine ⟨_, rfl, L, _, rfl, .inl (SqL.of hL), rfl, false, rfl, iteF ?_⟩
    refine ⟨_, rfl, L, _, rfl, .inl (SqL.of hL), rfl, true, rfl, iteT ?_⟩
    rcases hk with rfl | rfl
    · exact ⟨_, rfl, rfl, true, rfl, iteT ⟨_, rfl, _, rfl, L, _, 0, _, rfl, rfl, SqL.of hL, atI_nat (j := 0) rfl, _, rfl, L, _, 1, _, rfl, rfl, SqL.of hL, atI_nat (j := 1) rfl, mk_pap HP.ne al (by omega) sm hd (fin0 rfl)⟩⟩
    · exact ⟨_, rfl, rfl, false, rfl, iteF ⟨_, rfl, _, rfl, L, _, 0, _, rfl, rfl, SqL.of hL, atI_nat (j := 0) rfl, _, rfl, L, _, 1, _, rfl, rfl, SqL.of hL, atI_nat (j := 1) rfl, mk_pap HD.ne al (by omega) sm hd (fin1 rfl)⟩⟩
  | [u0, u1, u2], _, hL =>
    refine ⟨_, rfl, L, _, rfl, .inl (SqL.of hL), rfl, false, rfl, iteF ?_⟩
    refine ⟨_, rfl, L, _, rfl, .inl (SqL.of hL), rfl, false, rfl, iteF ?_⟩
    refine ⟨_, rfl, L, _, rfl, .inl (SqL.of hL), rfl, false, rfl, iteF ?_⟩
    rcases hk with rfl | rfl
    · exact ⟨_, rfl, rfl, true, rfl, iteT ⟨_, rfl, _, rfl, L, _, 0, _, rfl, rfl, SqL.of hL, atI_nat (j := 0) rfl, _, rfl, L, _, 1, _, rfl, rfl, SqL.of hL, atI_nat (j := 1) rfl, _, rfl, L, _, 2, _, rfl, rfl, SqL.of hL, atI_nat (j := 2) rfl, mk_pap HP.ne al (by omega) sm hd (fin0 rfl)⟩⟩
    · exact ⟨_, rfl, rfl, false, rfl, iteF ⟨_, rfl, _, rfl, L, _, 0, _, rfl, rfl, SqL.of hL, atI_nat (j := 0) rfl, _, rfl, L, _, 1, _, rfl, rfl, SqL.of hL, atI_nat (j := 1) rfl, _, rfl, L, _, 2, _, rfl, rfl, SqL.of hL, atI_nat (j := 2) rfl, mk_pap HD.ne al (by omega) sm hd (fin1 rfl)⟩⟩
  | _ :: _ :: _ :: _ :: _, e, _ => simp at e; omega
end
/-! _law_turned -/
def turnT : T → T
  | .lst ts => .tup ts
  | .tup ts => .lst ts
  | .dct kvs => .dct kvs.reverse
  | .non => .non
  | .bl b => .bl b
  | .int n => .int n
  | .str s => .str s
  | .rat x y => .rat x y
theorem key_uniq {α : Type} : ∀ {l : List (Key × α)} {k : Key} {a b : α}, (l.map (·.1)).Nodup → (k, a) ∈ l → (k, b) ∈ l → a = b
  | [], _, _, _, _, h, _ => by simp at h
  | p :: l, k, a, b, nd, h1, h2 => by
    rw [List.map_cons, List.nodup_cons] at nd
    rcases List.mem_cons.mp h1 with e1 | m1 <;> rcases List.mem_cons.mp h2 with e2 | m2
    · rw [← e1] at e2; injection e2 with _ e2; exact e2.symm
    · exact absurd (List.mem_map.mpr ⟨(k, b), m2, by rw [← e1]⟩) nd.1
    · exact absurd (List.mem_map.mpr ⟨(k, a), m1, by rw [← e2]⟩) nd.1
    · exact key_uniq nd.2 m1 m2
theorem pick_of {l : List (Key × T)} {k : Key} {t : T} (nd : (l.map (·.1)).Nodup) (h : (k, t) ∈ l) : pick k l = t :=
  key_uniq nd (pick_mem (List.mem_map.mpr ⟨(k, t), h, rfl⟩)) h
theorem fix_turn {n : Nat} {t : T} (h : Sml n t) : fix (turnT t) = fix t := by
  cases t with
  | lst ts => rw [turnT, fix, fix]
  | tup ts => rw [turnT, fix, fix]
  | dct kvs =>
    have ok : KeysOk (kvs.map (·.1)) := by cases n with
      | zero => exact h.elim
      | succ n => exact h.1
    obtain ⟨_, nd, _, o⟩ := ok.ordP
    rw [turnT, fix, fix, List.map_reverse, o]
    refine congrArg T.tup (List.map_congr_left fun k hk => ?_)
    have km := ok.ord_mem.mp hk
    have e : pick k kvs.reverse = pick k kvs := pick_of (by rw [List.map_reverse]; exact (ok.ordP.2.2.1).ordP.2.1) (List.mem_reverse.mpr (pick_mem km))
    rw [pick_fix km, pick_fix (by rw [List.map_reverse]; exact List.mem_reverse.mpr km), e]
  | _ => rfl
theorem sml_turn {n : Nat} {t : T} (h : Sml n t) : Sml n (turnT t) := by
  cases t with
  | lst ts => cases n with
    | zero => exact h.elim
    | succ n => exact h
  | tup ts => cases n with
    | zero => exact h.elim
    | succ n => exact h
  | dct kvs => cases n with
    | zero => exact h.elim
    | succ n => exact ⟨by rw [List.map_reverse]; exact h.1.ordP.2.2.1, fun p hp => h.2 p (List.mem_reverse.mp hp)⟩
  | _ => exact h
/-- what stood in G, or came anew -/
def ext (G H H' : Hp) : Hp := fun b => match G b with
  | some o => some o
  | none => if H b = none then H' b else none
theorem ext_base {G H H' : Hp} : Same G (ext G H H') := fun b o e => by unfold ext; rw [e]
theorem ext_same {G H H' : Hp} (s : Same G H) (s' : Same H H') : Same (ext G H H') H' := fun b o e => by
  unfold ext at e
  cases q : G b with
  | some u =>
    rw [q] at e
    exact s' _ _ (s _ _ (by rw [q]; exact e))
  | none =>
    rw [q] at e
    dsimp only at e
    split at e
    · exact e
    · cases e
theorem ext_new {G H H' : Hp} {b : Addr} (s : Same G H) (h : H b = none) : ext G H H' b = H' b := by
  unfold ext
  rw [s.free h]
  exact if_pos h
def spTurn (C : Addr) (d : Nat) : Sp := fun vs H Q _ => ∃ v t G, vs = [v] ∧ Same G H ∧ Tr C G d v t ∧ Sml d t ∧ ∀ v' H', Same H H' → Tr C (ext G H H') d v' (turnT t) → Q v' H'
section
variable {P : Program} {w : World} {K : PySem.W.Frag} {mg : Str → Option Value} {base : Heap} {f C : Addr} {fd : FuncData}
theorem scTurn : FnScope ["_law_value_here", "_law_made", "_law_key"] ["_law_value_here"] (defScope sTurned) := ⟨rfl, rfl, rfl, by decide +kernel, rfl, by decide +kernel, by decide +kernel⟩
theorem ok_turn {d : Nat} (G : Glob mg) (G2 : Glob2 mg) (R : RatF K C) (RX : RatX K C) (F : DefAt K "_law_turned" "_law_turned" sTurned f fd) : FnOk P w K mg base CX0 1 f fd ["_law_value_here"] (spTurn C d) := by
  refine okN F scTurn (fun vs H Q E ⟨_, _, _, e, _⟩ => by rw [e]; rfl) (fun cdv A outer s H vs Q E hr ⟨v, t, Gh, e, sG, tr, sm, q⟩ => ?_)
  subst e
  refine ⟨_, pss_cons (ps_if (pt_val (pe_callB call_isi (by rfl) G.isi (by decide +kernel) (pa_cons (pv 0) (pa_cons (pe_bltn (by rfl) G.lst (by decide +kernel) (v := .ty "list") rfl) pa_nil))))
      (pss_one (ps_ret (pe_tupleOf (by rfl) G.tup (pv 0)))) pss_nil)
    (pss_cons (ps_if (pt_val (pe_callB call_isi (by rfl) G.isi (by decide +kernel) (pa_cons (pv 0) (pa_cons (pe_bltn (by rfl) G.tup (by decide +kernel) (v := .ty "tuple") rfl) pa_nil))))
      (pss_one (ps_ret (pe_callTy call_list_of (by rfl) G.lst (by decide +kernel) (pa_cons (pv 0) pa_nil)))) pss_nil)
    (pss_cons (ps_if (pt_val (pe_callB call_isi (by rfl) G.isi (by decide +kernel) (pa_cons (pv 0) (pa_cons (pe_bltn (by rfl) G2.dict (by decide +kernel) (v := .ty "dict") rfl) pa_nil))))
      (pss_cons (ps_set (i := 1) scTurn.nd rfl (Or.inl rfl) pe_dnewK)
      (pss_cons (ps_for PassesOwn.never rfl (pi_list (pe_revL (pe_callTy (call_listD rfl) (by rfl) G.lst (by decide +kernel) (pa_cons (pv 0) pa_nil)))) (pg_name (i := 2) scTurn.nd rfl (Or.inl rfl))
        (pss_one (ps_dput (hu_of hr) (pv 1) (pv 2) (pe_dget (hu_of hr) (pv 0) (pv 2) (fun _ _ => rfl)) rfl)))
      (pss_one (ps_ret (pv 1))))) pss_nil)
    (pss_one (ps_ret (pv 0))))), ?_⟩
  have tyv := (tr.same sG).ty R
  have i := tr.inv
  have line : (1000 : Nat) < sizeLine := by decide +kernel
  cases t with
  | lst ts =>
    obtain ⟨a, vs, rfl, g, e, rfl, al⟩ := i
    refine ⟨_, rfl, _, _, _, _, true, rfl, .ty "list", .base tyv, kit_L RX _, true, rfl, iteT ?_⟩
    refine ⟨_, rfl, .inl ⟨a, vs, rfl, SqL.of (sG _ _ g), fun p hp => q _ _ (upd_new hp) ?_⟩⟩
    exact ⟨p, vs, rfl, by rw [ext_new sG hp]; exact upd_same, al.mono fun _ _ _ _ z => z.same ext_base⟩
  | tup ts =>
    obtain ⟨a, vs, rfl, g, e, rfl, al⟩ := i
    refine ⟨_, rfl, _, _, _, _, false, rfl, .ty "list", .base tyv, kit_L RX _, false, rfl, iteF ?_⟩
    refine ⟨_, rfl, _, _, _, _, true, rfl, .ty "tuple", .base tyv, kit_T RX _, true, rfl, iteT ?_⟩
    refine ⟨_, rfl, a, vs, rfl, .inr (SqT.of (sG _ _ g)), fun p hp => q _ _ (upd_new hp) ?_⟩
    exact ⟨p, vs, rfl, by rw [ext_new sG hp]; exact upd_same, al.mono fun _ _ _ _ z => z.same ext_base⟩
  | dct ts =>
    obtain ⟨a, ws, rfl, g, e, rfl, al⟩ := i
    refine ⟨_, rfl, _, _, _, _, false, rfl, .ty "list", .base tyv, kit_L RX _, false, rfl, iteF ?_⟩
    refine ⟨_, rfl, _, _, _, _, false, rfl, .ty "tuple", .base tyv, kit_T RX _, false, rfl, iteF ?_⟩
    refine ⟨_, rfl, _, _, _, _, true, rfl, .ty "dict", .base tyv, kit_D RX _, true, rfl, iteT ?_⟩
    intro M hM
    have sM := upd_new (o := .dK []) hM
    have gM : upd H M (.dK []) a = some (.dK ws) := sM _ _ (sG _ _ g)
    refine ⟨_, rfl, a, ws, rfl, .of gM, fun l1 n1 => ?_⟩
    have s1 := upd_new (o := .lst (ws.map fun kv => kV kv.1)) n1
    refine ⟨l1, _, rfl, SqL.of upd_same, fun l2 n2 => ?_⟩
    have s2 := upd_new (o := .lst (ws.map fun kv => kV kv.1).reverse) n2
    have hk : (ws.map fun kv => kV kv.1).reverse = ((ts.reverse).map (·.1)).map kV := by
      rw [List.map_reverse, ← al.1, List.map_reverse, List.map_map]; rfl
    rw [hk] at s2 ⊢
    have nd := sm.1.ordP.2.1
    have l3 : ts.length ≤ 3 := by have := sm.1.len.1; rwa [List.length_map] at this
    have n1M : l1 ≠ M := by rintro rfl; rw [upd_same] at n1; cases n1
    have n2M : l2 ≠ M := by rintro rfl; rw [upd_ne n1M.symm, upd_same] at n2; cases n2
    refine ⟨l2, rfl, ⟨_, SqL.of upd_same⟩, ?_⟩
    refine for_list (K := K) (a := l2) (xs := ((ts.reverse).map (·.1)).map kV) (fun i σ H2 => ∃ ws' o2, σ = [some (.ref a), some (.ref M), o2] ∧ Same H H2 ∧ H2 M = some (.dK ws') ∧ AllE (Tr C Gh e) ws' (ts.reverse.take i) ∧ H2 l2 = some (.lst (((ts.reverse).map (·.1)).map kV)))
      ⟨[], _, rfl, ((sM.trans s1).trans s2), s2 _ _ (s1 _ _ upd_same), ⟨rfl, fun i p q e1 => by simp at e1⟩, upd_same⟩ (fun i σ H2 _ ⟨_, _, _, _, _, _, z⟩ => SqL.of z) ?_ ?_
    · rintro i x σ H2 hx ⟨ws', o2, rfl, ss, hM2, al2, hl2⟩
      rw [List.getElem?_map, List.getElem?_map] at hx
      obtain ⟨k, hk1, rfl⟩ := Option.map_eq_some_iff.mp hx
      obtain ⟨⟨k, t⟩, hkt, rfl⟩ := Option.map_eq_some_iff.mp hk1
      have mem : (k, t) ∈ ts := List.mem_reverse.mp (List.mem_of_getElem? hkt)
      obtain ⟨v, hv, rv⟩ := al.val (k := k) (List.mem_map.mpr ⟨(k, t), mem, rfl⟩)
      rw [pick_of nd mem] at rv
      refine ⟨_, rfl, _, rfl, a, v, rfl, ?_, _, rfl, _, rfl, M, _, rfl, DPut.k hM2 ?_, ?_⟩
      · rw [← hv]; exact DGet.k (ss _ _ (sG _ _ g))
      · rw [al2.len, List.length_take, List.length_reverse]; omega
      have wk : k ∉ ws'.map (·.1) := by
        rw [al2.1]
        intro z
        obtain ⟨j, hj⟩ := List.getElem?_of_mem z
        rw [List.map_take, List.getElem?_take] at hj
        split at hj
        · next hlt =>
          have nd2 : (ts.reverse.map (·.1)).Nodup := by rw [List.map_reverse]; exact sm.1.ordP.2.2.1.ordP.2.1
          have := nodup_get nd2 hj (show (ts.reverse.map (·.1))[i]? = some k by rw [List.getElem?_map, hkt]; rfl)
          omega
        · cases hj
      rw [putK_new wk]
      have et : ts.reverse.take (i + 1) = ts.reverse.take i ++ [(k, t)] := by
        obtain ⟨b1, b2⟩ := List.getElem?_eq_some_iff.mp hkt
        rw [List.take_succ_eq_append_getElem b1, b2]
      refine ⟨_, _, rfl, fun b o z => by rw [upd_ne (ne_of_none z hM)]; exact ss _ _ z, upd_same, ?_, by rw [upd_ne n2M]; exact hl2⟩
      rw [et]
      exact al2.snoc rv
    · rintro σ H2 ⟨ws', o2, rfl, ss, hM2, al2, hl2⟩
      rw [show (((ts.reverse).map (·.1)).map kV).length = ts.reverse.length by rw [List.length_map, List.length_map], List.take_length] at al2
      exact ⟨_, rfl, q _ _ ss ⟨M, ws', rfl, by rw [ext_new sG hM]; exact hM2, AllE.mono al2 fun _ _ _ _ z => z.same ext_base⟩⟩
  | non => exact ⟨_, rfl, _, _, _, _, false, rfl, .ty "list", .base tyv, kit_L RX _, false, rfl, iteF ⟨_, rfl, _, _, _, _, false, rfl, .ty "tuple", .base tyv, kit_T RX _, false, rfl, iteF ⟨_, rfl, _, _, _, _, false, rfl, .ty "dict", .base tyv, kit_D RX _, false, rfl, iteF ⟨_, rfl, q _ _ (Same.refl _) (tr.same ext_base)⟩⟩⟩⟩
  | bl b => exact ⟨_, rfl, _, _, _, _, false, rfl, .ty "list", .base tyv, kit_L RX _, false, rfl, iteF ⟨_, rfl, _, _, _, _, false, rfl, .ty "tuple", .base tyv, kit_T RX _, false, rfl, iteF ⟨_, rfl, _, _, _, _, false, rfl, .ty "dict", .base tyv, kit_D RX _, false, rfl, iteF ⟨_, rfl, q _ _ (Same.refl _) (tr.same ext_base)⟩⟩⟩⟩
  | int b => exact ⟨_, rfl, _, _, _, _, false, rfl, .ty "list", .base tyv, kit_L RX _, false, rfl, iteF ⟨_, rfl, _, _, _, _, false, rfl, .ty "tuple", .base tyv, kit_T RX _, false, rfl, iteF ⟨_, rfl, _, _, _, _, false, rfl, .ty "dict", .base tyv, kit_D RX _, false, rfl, iteF ⟨_, rfl, q _ _ (Same.refl _) (tr.same ext_base)⟩⟩⟩⟩
  | str b => exact ⟨_, rfl, _, _, _, _, false, rfl, .ty "list", .base tyv, kit_L RX _, false, rfl, iteF ⟨_, rfl, _, _, _, _, false, rfl, .ty "tuple", .base tyv, kit_T RX _, false, rfl, iteF ⟨_, rfl, _, _, _, _, false, rfl, .ty "dict", .base tyv, kit_D RX _, false, rfl, iteF ⟨_, rfl, q _ _ (Same.refl _) (tr.same ext_base)⟩⟩⟩⟩
  | rat x y => exact ⟨_, rfl, _, _, _, _, false, rfl, .ty "list", .base tyv, kit_L RX _, false, rfl, iteF ⟨_, rfl, _, _, _, _, false, rfl, .ty "tuple", .base tyv, kit_T RX _, false, rfl, iteF ⟨_, rfl, _, _, _, _, false, rfl, .ty "dict", .base tyv, kit_D RX _, false, rfl, iteF ⟨_, rfl, q _ _ (Same.refl _) (tr.same ext_base)⟩⟩⟩⟩
end
end K2

/-! == of papers as an operator. -/
namespace K2
open PySem PySem.Spec PyProof.Rows L2 K1 LamX
section
open PySem.W PySem.Calls
variable {prog : Program} {w : World} {A : Around} {E : Value → Shared → Prop} {s : Shared} {K : Frag} {x y C D g : Addr} {ox oy : Obj} {od oe : Option Obj}
/-- the right operand's class is below the left one's: it is asked first -/
theorem rc_sub {Q : Value → Shared → Prop} (X : K.In s.heap) (I : InstAt s.heap x ox C od) (J : InstAt s.heap y oy D oe) (ne : C ≠ D) (hsub : subIn K (.ref D) (.ref C) = some true)
    (hs : findIn K (.ref D) "__eq__" = some (some (.ref g))) (hf : isFn K (.ref g) = true) (hu : A.units < cLine) (h : wpAny (model prog w) A (call (.ref g) [.ref y, .ref x]) (PySem.W.CmpBack Q) E s) : wpAny (model prog w) A (richCompare .Eq (.ref x) (.ref y)) Q E s := by
  have one : wpAny (model prog w) A (tryCompare (.ref y) (cmpInfo .Eq).2.2 (.ref x)) (fun r s' => ∃ v, r = some v ∧ Q v s') E s := by
    unfold tryCompare
    refine wpAny_bind (ifBound_K X J hs hf (wpAny_mono h (fun v s' hv => ?_) fun _ _ e => e))
    cases v <;> first | exact hv.elim | exact wpAny_pure ⟨_, rfl, hv⟩
  unfold richCompare
  simp only [oneThing_ref]
  refine wpAny_holding (wpAny_bind (wpAny_cRoomFor hu ?_))
  refine wpAny_bind (I.type.here (wpAny_bind (J.type.here ?_)))
  have hne : (Value.ref C != Value.ref D) = true := by
    show (!(Value.ref C == Value.ref D)) = true
    have n : (Value.ref C == Value.ref D) = false := Bool.eq_false_iff.mpr fun q => ne (by injection beq_iff_eq.mp q)
    rw [n]; rfl
  simp only [hne, if_true]
  refine wpAny_bind ((looks_subIn X hsub).here ?_)
  simp only [if_true]
  refine wpAny_bind (wpAny_mono one (fun r s' z => ?_) fun _ _ e => e)
  obtain ⟨v, rfl, hq⟩ := z
  exact wpAny_bind (wpAny_rule (wpAny_pure hq))
end
/-- == of a class of papers -/
structure PEqOf (P : Program) (w : World) (K : PySem.W.Frag) (mg : Str → Option Value) (base : Heap) (C CP : Addr) : Prop where
  h : ∃ f fd, FnOk P w K mg base CX0 14 f fd ["self", "other"] (spPEq K C) ∧ Binds K fd ["self", "other"] [] ∧ OwnM K CP "__eq__" f
def rPap (P : Program) (w : World) (K : PySem.W.Frag) (mg : Str → Option Value) (base : Heap) (C : Addr) : R2 := fun x y H Q => ∃ a CP dx fs, x = .ref a ∧ H a = some (.ins CP dx fs) ∧
  ((∃ t, TyOf K H y t ∧ PySem.W.notFirst K CP t = true ∧ PEqOf P w K mg base C CP ∧ spPEq K C [x, y] H Q E0) ∨
   (∃ b CD dy gs, y = .ref b ∧ H b = some (.ins CD dy gs) ∧ CP ≠ CD ∧ PySem.W.subIn K (.ref CD) (.ref CP) = some true ∧ PEqOf P w K mg base C CD ∧ spPEq K C [y, x] H Q E0))
theorem op_pap {X : Cx} {C : Addr} (hr : Room 14 X.A) : OpR X (compareOp .Eq) (rPap X.prog X.w X.K X.mg X.base C) := by
  intro pins s σ H x y v u Q I rx ry ⟨a, CP, dx, fs, ex, g, h⟩
  subst ex
  obtain rfl : v = Value.ref a := rx
  obtain ⟨ox, od, J⟩ := own_inst I g
  have hu : X.A.units < cLine := by have := hr.un; omega
  have at_ : Af X 14 X.A := ⟨I.ok.frames, hr⟩
  rcases h with ⟨t, ty, nf, EO, sp⟩ | ⟨b, CD, dy, gs, ey, g2, ne, sub, EO, sp⟩
  · obtain ⟨f, fd, F, B, M⟩ := EO.h
    obtain ⟨m, hF⟩ := I.fr
    exact PySem.W.cmp_K (op := .Eq) hu hF I.ok.mod.kin J (ty_look I ry ty) nf M.at_ M.fn (thn (run_af (vs := [.ref a, y]) (us := [.ref a, u]) F at_ B I (.cons rfl (.cons ry .nil)) sp) fun _ _ z => ep_back z)
  · subst ey
    obtain rfl : u = Value.ref b := ry
    obtain ⟨oy, oe, J2⟩ := own_inst I g2
    obtain ⟨f, fd, F, B, M⟩ := EO.h
    exact rc_sub I.kIn J J2 ne sub M.at_ M.fn hu (thn (run_af (vs := [.ref b, .ref a]) (us := [.ref b, .ref a]) F at_ B I (.cons rfl (.cons rfl .nil)) sp) fun _ _ z => ep_back z)
/-- all that is asked of a class of papers -/
structure PapAll (P : Program) (w : World) (K : PySem.W.Frag) (mg : Str → Option Value) (base : Heap) (C CP : Addr) : Prop where
  c : PapC K CP
  mks : PySem.W.makesIn K CP = true
  eq : PEqOf P w K mg base C CP
  ne : CP ≠ C
  nt : PySem.W.notFirst K CP (.type "tuple") = true
/-- how two classes stand to each other, the left one asked or the right one -/
def Cmp (K : PySem.W.Frag) (CP CD : Addr) : Prop := CP ≠ CD ∧ (PySem.W.notFirst K CP (.ref CD) = true ∨ PySem.W.subIn K (.ref CD) (.ref CP) = some true)
section
variable {P : Program} {w : World} {K : PySem.W.Frag} {mg : Str → Option Value} {base : Heap} {C CP CD : Addr} {H : Hp} {a b : Addr} {wd wd' : Str} {ts us : List T} {Q : VK}
theorem nf_self : PySem.W.notFirst K CP (.ref CP) = true := by
  unfold PySem.W.notFirst
  simp
theorem pap_same (A : PapAll P w K mg base C CP) (pa : PapAt C CP H a wd (.tup ts)) (pb : PapAt C CP H b wd' (.tup us)) (h1 : (T.tup ts).depth ≤ 10) (h2 : (T.tup us).depth ≤ 10) (q : ∀ H', Same H H' → Q (.bl (decide (wd = wd') && eqv (.tup ts) (.tup us))) H') : rPap P w K mg base C (.ref a) (.ref b) H Q := by
  obtain ⟨dx, fs, v, g, _⟩ := id pa
  exact ⟨a, CP, dx, fs, rfl, g, .inl ⟨_, pb.ty A.c, nf_self, A.eq, a, .ref b, CP, wd, ts, rfl, A.c, A.mks, pa, h1, .inr (.inr ⟨b, wd', us, rfl, pb, h2, q⟩)⟩⟩
theorem pap_tup (A : PapAll P w K mg base C CP) (pa : PapAt C CP H a wd (.tup ts)) (h1 : (T.tup ts).depth ≤ 10) {xs : List V} (hb : H b = some (.tup xs)) (q : Q (.bl false) H) : rPap P w K mg base C (.ref a) (.ref b) H Q := by
  obtain ⟨dx, fs, v, g, _⟩ := id pa
  exact ⟨a, CP, dx, fs, rfl, g, .inl ⟨_, .tup hb, A.nt, A.eq, a, .ref b, CP, wd, ts, rfl, A.c, A.mks, pa, h1, .inr (.inl ⟨b, xs, rfl, hb, q⟩)⟩⟩
/-- a thing of another own class -/
theorem pap_other (A : PapAll P w K mg base C CP) (pa : PapAt C CP H a wd (.tup ts)) (h1 : (T.tup ts).depth ≤ 10) {dy : Addr} {gs : List (Str × V)} (hb : H b = some (.ins CD dy gs)) (ty : TyOf K H (.ref b) (.ref CD)) (mk : PySem.W.makesIn K CD = true) (ne : CP ≠ CD) (nf : PySem.W.notFirst K CP (.ref CD) = true) (q : Q (.bl false) H) : rPap P w K mg base C (.ref a) (.ref b) H Q := by
  obtain ⟨dx, fs, v, g, _⟩ := id pa
  exact ⟨a, CP, dx, fs, rfl, g, .inl ⟨_, ty, nf, A.eq, a, .ref b, CP, wd, ts, rfl, A.c, A.mks, pa, h1, .inl ⟨b, CD, dy, gs, rfl, hb, mk, ne, q⟩⟩⟩
theorem pap_cls (A : PapAll P w K mg base C CP) (B : PapAll P w K mg base C CD) (cm : Cmp K CP CD) (pa : PapAt C CP H a wd (.tup ts)) (pb : PapAt C CD H b wd' (.tup us)) (h1 : (T.tup ts).depth ≤ 10) (h2 : (T.tup us).depth ≤ 10) (q : Q (.bl false) H) : rPap P w K mg base C (.ref a) (.ref b) H Q := by
  obtain ⟨dy, gs, v', g', _⟩ := id pb
  obtain ⟨ne, nf | sub⟩ := cm
  · exact pap_other A pa h1 g' (pb.ty B.c) B.mks ne nf q
  · obtain ⟨dx, fs, v, g, _⟩ := id pa
    exact ⟨a, CP, dx, fs, rfl, g, .inr ⟨b, CD, dy, gs, rfl, g', ne, sub, B.eq, b, .ref a, CD, wd', us, rfl, B.c, B.mks, pb, h2, .inl ⟨a, CP, dx, fs, rfl, g, A.mks, ne.symm, q⟩⟩⟩
end
end K2

/-! _law_papers_right. -/
namespace K2
open PySem PySem.Spec PyProof.Rows L2 K1 LamX

/-- a def that is called by its name, no defaults, nothing raised -/
structure Fn0 (P : Program) (w : World) (K : PySem.W.Frag) (mg : Str → Option Value) (base : Heap) (k : Nat) (nm : Str) (ps : List Str) (sp : Sp) : Prop where
  h : ∃ f fd, mg nm = some (.ref f) ∧ PySem.W.keepIn K (.ref f) = true ∧ Binds K fd ps [] ∧ FnOk P w K mg base CX0 k f fd ps sp
/-- bool of a class of papers -/
structure HasBool (P : Program) (w : World) (K : PySem.W.Frag) (mg : Str → Option Value) (base : Heap) (CP : Addr) (b : Bool) : Prop where
  h : ∃ f fd, OwnM K CP "__bool__" f ∧ Binds K fd ["self"] [] ∧ FnOk P w K mg base CX0 1 f fd ["self"] (spPBool b)
def spRight (C : Addr) (need : Nat) : Sp := fun vs H Q _ => ∃ (p : Addr) (n : Nat), vs = [.ref p] ∧ TubAt H p n ∧ n + need ≤ 10000 ∧ ∀ H', TubAt H' p (n + need) → Keep p H H' → Q (.bl true) H'
theorem val_k {C : Addr} {σ : L2.St} {H : Hp} {p : Addr} {n d : Nat} {Q : VK} {E : XK} (h0 : σ[0]? = some (some (.ref p))) (h : TubAt H p n) (hn : n + cost d ≤ 10000) (k : ∀ v t H', TubAt H' p (n + cost d) → Keep p H H' → Tr C (neu H H') d v t → Sml d t → Q v H') :
    tCall (spVal C d) [] E (tCons (tVar 0) (tCons (tC (.int (d : Int))) tNil)) σ H Q := ⟨_, h0, p, n, rfl, h, hn, k⟩
theorem seq_par {i j : Nat} {ta : TA} {u : TS} {D : Ends} {σ : L2.St} {H : Hp} (h : ta σ H fun vs H1 => ∃ a b, vs = [a, b] ∧ u D ((σ.set i (some a)).set j (some b)) H1) : tSeq (tPar i j ta) u D σ H := by
  have e : tPar i j ta { D with nx := u D } σ H = tSeq (tPar i j ta) u D σ H := rfl
  rw [← e]
  exact h
/-! heaps without their lists and dicts -/
def hd (H : Hp) : Hp := fun b => match H b with
  | some (.lst _) => none
  | some (.dK _) => none
  | o => o
theorem hd_same {H : Hp} : Same (hd H) H := fun b o e => by
  unfold hd at e
  split at e
  · cases e
  · cases e
  · exact e
theorem hd_tup {H : Hp} {a : Addr} {xs : List V} (h : H a = some (.tup xs)) : hd H a = some (.tup xs) := by unfold hd; rw [h]
theorem hd_ins {H : Hp} {a c dx : Addr} {fs : List (Str × V)} (h : H a = some (.ins c dx fs)) : hd H a = some (.ins c dx fs) := by unfold hd; rw [h]
theorem Tr.hd {C : Addr} {H : Hp} : ∀ {d : Nat} {v : V} {t : T}, Tr C H d v t → isFx t = true → Tr C (hd H) d v t := by
  intro d
  induction d with
  | zero =>
    intro v t h f
    cases t with
    | rat x y => obtain ⟨a, e, dx, g⟩ := h; exact ⟨a, e, dx, hd_ins g⟩
    | lst ts => exact h.elim
    | tup ts => exact h.elim
    | dct ts => exact h.elim
    | _ => exact h
  | succ d ih =>
    intro v t h f
    cases t with
    | rat x y => obtain ⟨a, e, dx, g⟩ := h; exact ⟨a, e, dx, hd_ins g⟩
    | lst ts => rw [isFx] at f; cases f
    | dct ts => rw [isFx] at f; cases f
    | tup ts =>
      rw [isFx, isFxL_all] at f
      obtain ⟨a, vs, e, g, r⟩ := h
      exact ⟨a, vs, e, hd_tup g, r.1, fun i v t e1 e2 => ih (r.2 i v t e1 e2) (f t (List.mem_of_getElem? e2))⟩
    | _ => exact h
theorem PapAt.hd {C CP : Addr} {H : Hp} {a : Addr} {wd : Str} {t : T} (h : PapAt C CP H a wd t) : PapAt C CP (hd H) a wd t :=
  let ⟨dx, fs, v, h1, h2, h3, h4, h5⟩ := h; ⟨dx, fs, v, hd_ins h1, h2, h3, h4.hd h5, h5⟩
/-- the outermost level of a part -/
def Shp (C : Addr) (G H : Hp) (m : Nat) (v : V) : T → Prop
  | .lst _ => ∃ a xs, v = .ref a ∧ G a ≠ none ∧ H a = some (.lst xs) ∧ xs.length ≤ m
  | .dct _ => ∃ a ws, v = .ref a ∧ G a ≠ none ∧ H a = some (.dK ws) ∧ ws.length ≤ m
  | .tup _ => ∃ a xs, v = .ref a ∧ H a = some (.tup xs)
  | .rat x y => ∃ a, v = .ref a ∧ RatAt C H a x y
  | .non => v = .non
  | .bl b => v = .bl b
  | .int n => v = .int n
  | .str s => v = .str s
theorem Shp.of {C : Addr} {G H : Hp} {n : Nat} {v : V} {t : T} (s : Same G H) (h : Tr C G n v t) (sm : Sml n t) : Shp C G H 4 v t := by
  have i := h.inv
  cases t with
  | lst ts =>
    obtain ⟨a, vs, e, g, d, rfl, al⟩ := i
    exact ⟨a, vs, e, by rw [g]; exact (fun z => nomatch z), s _ _ g, by rw [al.1]; exact sm.1⟩
  | dct ts =>
    obtain ⟨a, vs, e, g, d, rfl, al⟩ := i
    exact ⟨a, vs, e, by rw [g]; exact (fun z => nomatch z), s _ _ g, by rw [al.len]; have := sm.1.len.1; rw [List.length_map] at this; omega⟩
  | tup ts =>
    obtain ⟨a, vs, e, g, d, rfl, al⟩ := i
    exact ⟨a, vs, e, s _ _ g⟩
  | rat x y =>
    obtain ⟨a, dx, e, g⟩ := i
    exact ⟨a, e, dx, s _ _ g⟩
  | _ => exact i
/-- a list stays a list, one longer at most; a dict stays a dict -/
def Spoilt (a : Addr) (H H' : Hp) : Prop := But a H H' ∧ ((∃ xs ys, H a = some (.lst xs) ∧ H' a = some (.lst ys) ∧ ys.length ≤ xs.length + 1) ∨ (∃ ws ws', H a = some (.dK ws) ∧ H' a = some (.dK ws') ∧ ws'.length = ws.length))
theorem Shp.spoilt {C a : Addr} {G H H' : Hp} {m : Nat} {v : V} {t : T} (h : Shp C G H m v t) (s : Spoilt a H H') : Shp C G H' (m + 1) v t := by
  obtain ⟨b, k⟩ := s
  have hard : ∀ c o, H c = some o → (∀ xs, o ≠ .lst xs) → (∀ ws, o ≠ .dK ws) → H' c = some o := fun c o e n1 n2 => by
    refine b c o ?_ e
    rintro rfl
    rcases k with ⟨xs, ys, e1, _⟩ | ⟨xs, ys, e1, _⟩
    · rw [e] at e1; injection e1 with e1; exact n1 _ e1
    · rw [e] at e1; injection e1 with e1; exact n2 _ e1
  cases t with
  | lst ts =>
    obtain ⟨c, xs, e, g, h, l⟩ := h
    by_cases z : c = a
    · subst z
      rcases k with ⟨xs', ys, e1, e2, l2⟩ | ⟨xs', ys, e1, _⟩
      · rw [h] at e1; injection e1 with e1; injection e1 with e1; subst e1
        exact ⟨c, ys, e, g, e2, by omega⟩
      · rw [h] at e1; cases e1
    · exact ⟨c, xs, e, g, b _ _ z h, by omega⟩
  | dct ts =>
    obtain ⟨c, xs, e, g, h, l⟩ := h
    by_cases z : c = a
    · subst z
      rcases k with ⟨xs', ys, e1, _⟩ | ⟨xs', ys, e1, e2, l2⟩
      · rw [h] at e1; cases e1
      · rw [h] at e1; injection e1 with e1; injection e1 with e1; subst e1
        exact ⟨c, ys, e, g, e2, by omega⟩
    · exact ⟨c, xs, e, g, b _ _ z h, by omega⟩
  | tup ts => obtain ⟨c, xs, e, h⟩ := h; exact ⟨c, xs, e, hard _ _ h (fun _ z => nomatch z) fun _ z => nomatch z⟩
  | rat x y => obtain ⟨c, e, dx, h⟩ := h; exact ⟨c, e, dx, hard _ _ h (fun _ z => nomatch z) fun _ z => nomatch z⟩
  | _ => exact h
theorem Shp.more {C : Addr} {G H : Hp} {m k : Nat} {v : V} {t : T} (h : Shp C G H m v t) (l : m ≤ k) : Shp C G H k v t := by
  cases t with
  | lst ts => obtain ⟨c, xs, e, g, h, l2⟩ := h; exact ⟨c, xs, e, g, h, by omega⟩
  | dct ts => obtain ⟨c, xs, e, g, h, l2⟩ := h; exact ⟨c, xs, e, g, h, by omega⟩
  | _ => exact h
/-- spoiling such a part -/
theorem spoil_shp {K : PySem.W.Frag} {C : Addr} {G H : Hp} {m : Nat} {v : V} {t : T} {Q : VK} {E : XK} (R : RatF K C) (RX : RatX K C) (h : Shp C G H m v t) (hm : m ≤ 100) (q0 : Q .non H) (q1 : ∀ a H', G a ≠ none → Spoilt a H H' → Q .non H') : spSpoil C K [v] H Q E := by
  refine ⟨v, rfl, ?_⟩
  cases t with
  | lst ts => obtain ⟨a, xs, rfl, g, h, l⟩ := h; exact .inl ⟨a, xs, rfl, h, by omega, fun H' ys b e l2 => q1 a H' g ⟨b, .inl ⟨xs, ys, h, e, l2⟩⟩⟩
  | dct ts => obtain ⟨a, xs, rfl, g, h, l⟩ := h; exact .inr (.inl ⟨a, xs, rfl, h, by omega, fun H' ys b e l2 => q1 a H' g ⟨b, .inr ⟨xs, ys, h, e, l2⟩⟩⟩)
  | tup ts => obtain ⟨a, xs, rfl, h⟩ := h; exact .inr (.inr ⟨_, .tup h, kit_L RX (.tup []), kit_D RX (.tup []), q0⟩)
  | rat x y => obtain ⟨a, rfl, h⟩ := h; exact .inr (.inr ⟨_, h.ty R, RX.l, RX.d, q0⟩)
  | non => obtain rfl : v = .non := h; exact .inr (.inr ⟨_, .non, kit_L RX .non, kit_D RX .non, q0⟩)
  | bl b => obtain rfl : v = .bl b := h; exact .inr (.inr ⟨_, .bl b, kit_L RX (.bl b), kit_D RX (.bl b), q0⟩)
  | int b => obtain rfl : v = .int b := h; exact .inr (.inr ⟨_, .int b, kit_L RX (.int b), kit_D RX (.int b), q0⟩)
  | str b => obtain rfl : v = .str b := h; exact .inr (.inr ⟨_, .str b, kit_L RX (.str b), kit_D RX (.str b), q0⟩)
theorem Sml.depth : ∀ {n : Nat} {t : T}, Sml n t → t.depth ≤ n := by
  intro n
  induction n with
  | zero => intro t h; cases t <;> first | exact h.elim | exact Nat.zero_le _
  | succ n ih =>
    intro t h
    cases t with
    | lst ts => rw [T.depth]; exact Nat.succ_le_succ (depthL_le fun t ht => ih (h.2 t ht))
    | tup ts => rw [T.depth]; exact Nat.succ_le_succ (depthL_le fun t ht => ih (h.2 t ht))
    | dct ts => rw [T.depth]; exact Nat.succ_le_succ (depthD_le fun t ht => ih (h.2 t ht))
    | _ => exact Nat.zero_le _
theorem fixL_turn {n : Nat} {ts : List T} (h : ∀ t ∈ ts, Sml n t) : fixL (ts.map turnT) = fixL ts := by
  rw [fixL_map, fixL_map, List.map_map]
  exact List.map_congr_left fun t ht => fix_turn (h t ht)
theorem str_more (w : Str) : ¬ w = w ++ "x" := fun e => by
  have := congrArg Str.length e
  rw [strLen_append] at this
  have : (("x" : String) : Str).length = 1 := by decide +kernel
  omega
/-- bool of a paper -/
theorem bool_c {K : PySem.W.Frag} {C CP CD x : Addr} {H : Hp} {wd : Str} {t : T} {kd : Int} {Q : VK} {E E' : XK} (hk : kd = 0 ∨ kd = 1) (px : PapAt C (if kd = 0 then CP else CD) H x wd t) (q : Q (.bl (decide (kd = 0))) H) :
    (∃ a dx fs, [V.ref x] = [.ref a] ∧ H a = some (.ins CP dx fs) ∧ spPBool true [.ref a] H (fun v H' => ∃ b, v = .bl b ∧ Q (.bl b) H') E) ∨ (∃ a dx fs, [V.ref x] = [.ref a] ∧ H a = some (.ins CD dx fs) ∧ spPBool false [.ref a] H (fun v H' => ∃ b, v = .bl b ∧ Q (.bl b) H') E') := by
  obtain ⟨dx, fs, v, g, _⟩ := px
  rcases hk with rfl | rfl
  · exact .inl ⟨x, dx, fs, rfl, g, x, rfl, true, rfl, q⟩
  · exact .inr ⟨x, dx, fs, rfl, g, x, rfl, false, rfl, q⟩
theorem bool_cb {K : PySem.W.Frag} {C CP CD x : Addr} {σ : L2.St} {i : Nat} {H : Hp} {wd : Str} {t : T} {kd : Int} {Q : VK} {E E' : XK} (hσ : σ[i]? = some (some (.ref x))) (hk : kd = 0 ∨ kd = 1) (px : PapAt C (if kd = 0 then CP else CD) H x wd t) (q : Q (.bl (decide (kd = 0))) H) :
    tCB (fun xs H Q => (∃ a dx fs, xs = [V.ref a] ∧ H a = some (.ins CP dx fs) ∧ spPBool true [.ref a] H (fun v H' => ∃ b, v = .bl b ∧ Q (.bl b) H') E) ∨ (∃ a dx fs, xs = [V.ref a] ∧ H a = some (.ins CD dx fs) ∧ spPBool false [.ref a] H (fun v H' => ∃ b, v = .bl b ∧ Q (.bl b) H') E')) (tCons (tVar i) tNil) σ H Q :=
  ⟨_, hσ, bool_c (K := K) hk px q⟩
theorem tst_op {r : R2} {ta tb : TE} {σ : L2.St} {H : Hp} {Q : Bool → Hp → Prop} (h : ta σ H fun x H1 => tb σ H1 fun y H2 => r x y H2 fun z H3 => ∃ k, z = .bl k ∧ Q k H3) : tTest (tOp r ta tb) σ H Q := h
theorem drop_call {sp : Sp} {E : XK} {i : Nat} {v : V} {D : Ends} {σ : L2.St} {H : Hp} (hσ : σ[i]? = some (some v)) (h : sp [v] H (fun _ H' => D.nx σ H') E) : tDrop (tCall sp [] E (tCons (tVar i) tNil)) D σ H := ⟨v, hσ, h⟩
theorem hd_not {H : Hp} {b : Addr} {o : HO} (h : hd H b = some o) : (∀ xs, o ≠ .lst xs) ∧ ∀ ws, o ≠ .dK ws := by
  unfold hd at h
  split at h
  · cases h
  · cases h
  · next n1 n2 => exact ⟨fun xs e => n1 xs (by rw [h, e]), fun ws e => n2 ws (by rw [h, e])⟩
theorem Spoilt.hd {a : Addr} {F H H' : Hp} (s : Spoilt a H H') (h : Same (hd F) H) : Same (hd F) H' := fun b o e => by
  obtain ⟨n1, n2⟩ := hd_not e
  have z := h _ _ e
  refine s.1 b o ?_ z
  rintro rfl
  rcases s.2 with ⟨xs, ys, e1, _⟩ | ⟨xs, ys, e1, _⟩
  · rw [z] at e1; injection e1 with e1; exact n1 _ e1
  · rw [z] at e1; injection e1 with e1; exact n2 _ e1
/-- Paper for 0, Denial for 1 -/
theorem both_cls {P : Program} {w : World} {K : PySem.W.Frag} {mg : Str → Option Value} {base : Heap} {C CP CD : Addr} (AP : PapAll P w K mg base C CP) (AD : PapAll P w K mg base C CD) (k : Int) : PapAll P w K mg base C (if k = 0 then CP else CD) := by
  split
  · exact AP
  · exact AD
theorem both_cmp {K : PySem.W.Frag} {CP CD : Addr} (c1 : Cmp K CP CD) (c2 : Cmp K CD CP) {k : Int} (h : k = 0 ∨ k = 1) : Cmp K (if k = 0 then CP else CD) (if 1 - k = 0 then CP else CD) := by
  rcases h with rfl | rfl
  · exact c1
  · exact c2
theorem ext_off {G H H' : Hp} {D : Addr} {o ob : HO} (g : G D = none) (h : H D = some ob) (s : Same G H) (s' : Same H H') : Same (ext G H H') (hide D (upd H' D o)) := fun b u e => by
  have z := ext_same s s' b u e
  have ne : b ≠ D := by
    rintro rfl
    unfold ext at e
    rw [g] at e
    dsimp only at e
    rw [if_neg (by rw [h]; exact fun z => nomatch z)] at e
    cases e
  rw [hide_ne ne, upd_ne ne]
  exact z
abbrev NPap : List Str := ["_law_crate_here", "_law_word", "_law_kind", "_law_parts", "_law_part", "_law_due", "_law_paper_here", "_law_twin", "_law_turn"]
section
variable {P : Program} {w : World} {K : PySem.W.Frag} {mg : Str → Option Value} {base : Heap} {f C CP CD : Addr} {fd : FuncData}
theorem scPap : FnScope NPap ["_law_crate_here"] (defScope sPapersRight) := ⟨rfl, rfl, rfl, by decide +kernel, rfl, by decide +kernel, by decide +kernel⟩
theorem ok_papers (G : Glob mg) (R : RatF K C) (RX : RatX K C) (HS : HasHaul P w K mg base) (FV : Fn0 P w K mg base 8 "_law_value" ["_law_crate_here", "_law_depth"] (spVal C 3)) (FF : Fn0 P w K mg base 11 "_law_fixed" ["_law_value_here"] (spFix C 9))
    (FP : Fn0 P w K mg base 14 "_law_paper" ["_law_kind", "_law_word", "_law_parts"] (spMkP C CP CD)) (FT : Fn0 P w K mg base 1 "_law_turned" ["_law_value_here"] (spTurn C 3)) (FS : Fn0 P w K mg base 17 "_law_same" ["_law_told", "_law_due"] (spSame C 10))
    (FO : Fn0 P w K mg base 1 "_law_spoil" ["_law_value_here"] (spSpoil C K)) (AP : PapAll P w K mg base C CP) (AD : PapAll P w K mg base C CD) (BP : HasBool P w K mg base CP true) (BD : HasBool P w K mg base CD false) (c1 : Cmp K CP CD) (c2 : Cmp K CD CP)
    (F : DefAt K "_law_papers_right" "_law_papers_right" sPapersRight f fd) : FnOk P w K mg base CX0 19 f fd ["_law_crate_here"] (spRight C 400) := by
  obtain ⟨fs, fds, mS, kS, bS, GS⟩ := HS.h
  obtain ⟨fv, fdv, mV, kV', bV, GV⟩ := FV.h
  obtain ⟨ff, fdf, mF, kF, bF, GF⟩ := FF.h
  obtain ⟨fp, fdp, mP, kP, bP, GP⟩ := FP.h
  obtain ⟨ft, fdt, mT, kT, bT, GT⟩ := FT.h
  obtain ⟨fa, fda, mA, kA, bA, GA⟩ := FS.h
  obtain ⟨fo, fdo, mO, kO, bO, GO⟩ := FO.h
  obtain ⟨b1, bd1, B1, Bb1, G1⟩ := BP.h
  obtain ⟨b2, bd2, B2, Bb2, G2⟩ := BD.h
  refine okN F scPap (fun vs H Q E ⟨_, _, e, _⟩ => by rw [e]; rfl) (fun cdv A outer s H vs Q E hr ⟨p, n, e, tub, hn, q⟩ => ?_)
  subst e
  have r1 := hr.mono (show 1 ≤ 18 by decide)
  have r8 := hr.mono (show 8 ≤ 18 by decide)
  have r11 := hr.mono (show 11 ≤ 18 by decide)
  have r14 := hr.mono (show 14 ≤ 18 by decide)
  have r17 := hr.mono (show 17 ≤ 18 by decide)
  have r3 := hr.mono (show 1 + 2 ≤ 18 by decide)
  refine ⟨_, pss_cons (ps_par (i := 1) (j := 2) (by rfl) scPap.nd rfl rfl (by decide) rfl rfl (pa_cons (pe_ix ix_list (pe_lst (pa_cons pe_str (pa_cons pe_str (pa_cons pe_str pa_nil)))) (pe_call GS r1 rfl mS kS bS .nil pass0 (pa_cons (pv 0) (pa_cons pe_int pa_nil))) (fun _ _ => rfl))
      (pa_cons (pe_call GS r1 rfl mS kS bS .nil pass0 (pa_cons (pv 0) (pa_cons pe_int pa_nil))) pa_nil)) (by rfl))
    (pss_cons (ps_setLc (i := 3) (own := [("_law_turn", 8)]) (g := gName 8) (tt := tYes) rfl scPap.nd rfl rfl rfl (pi_range1 (by rfl) G.range (pa_cons (pe_call GS r1 rfl mS kS bS .nil pass0 (pa_cons (pv 0) (pa_cons pe_int pa_nil))) pa_nil)) (blkOk_by (N := NPap) (sc := defScope sPapersRight) (by decide +kernel))
        (fun _ _ _ _ _ => pg_name (i := 8) scPap.nd rfl (Or.inl rfl)) (fun _ _ _ _ _ => pts_nil) (fun _ _ _ _ _ => pe_call GV r8 rfl mV kV' bV .nil pass0 (pa_cons (pv 0) (pa_cons pe_int pa_nil))))
    (pss_cons (ps_set (i := 5) scPap.nd rfl (Or.inl rfl) (pe_tupleOf (by rfl) G.tup (pe_lc (own := [("_law_part", 4)]) (g := gName 4) (tt := tYes) rfl scPap.nd (pi_list (pv 3)) (blkOk_by (N := NPap) (sc := defScope sPapersRight) (by decide +kernel))
        (fun _ _ _ _ _ => pg_name (i := 4) scPap.nd rfl (Or.inl rfl)) (fun _ _ _ _ _ => pts_nil) (fun _ _ _ _ _ => pe_call GF r11 rfl mF kF bF .nil pass0 (pa_cons (pv 4) pa_nil)))))
    (pss_cons (ps_set (i := 6) scPap.nd rfl (Or.inl rfl) (pe_call GP r14 rfl mP kP bP .nil pass0 (pa_cons (pv 2) (pa_cons (pv 1) (pa_cons (pv 3) pa_nil)))))
    (pss_cons (ps_set (i := 7) scPap.nd rfl (Or.inl rfl) (pe_call GP r14 rfl mP kP bP .nil pass0 (pa_cons (pv 2) (pa_cons (pv 1) (pa_cons (pe_lc (own := [("_law_part", 4)]) (g := gName 4) (tt := tYes) rfl scPap.nd (pi_list (pv 3)) (blkOk_by (N := NPap) (sc := defScope sPapersRight) (by decide +kernel))
        (fun _ _ _ _ _ => pg_name (i := 4) scPap.nd rfl (Or.inl rfl)) (fun _ _ _ _ _ => pts_nil) (fun _ _ _ _ _ => pe_call GT r1 rfl mT kT bT .nil pass0 (pa_cons (pv 4) pa_nil))) pa_nil)))))
    (pss_cons (ps_if (PW.pt (pw_or (pt_not (pt_val (pe_call GA r17 rfl mA kA bA .nil pass0 (pa_cons (pe_fld (pv 6) rfl) (pa_cons (pv 5) pa_nil))))) (pw_or (pt_cmpR op_ne (pe_fld (pv 6) rfl) (pv 1) (nomark _))
        (pw_or1 (pt_cmpR op_ne (pe_callTy (cr_both (call_boolO B1 G1 r3 Bb1 pass0) (call_boolO B2 G2 r3 Bb2 pass0)) (by rfl) G.bool (by decide +kernel) (pa_cons (pv 6) pa_nil)) (pe_cmpR op_eq (pv 2) pe_int (nomark _)) (nomark _)))))) (pss_one (ps_ret pe_bl)) pss_nil)
    (pss_cons (ps_if (PW.pt (pw_or (pt_not (pt_cmpR (op_pap (C := C) r14) (pv 6) (pv 7) (nomark _))) (pw_or (pt_cmpR (op_pap (C := C) r14) (pv 6) (pe_call GP r14 rfl mP kP bP .nil pass0 (pa_cons (pe_op op_sub pe_int (pv 2)) (pa_cons (pv 1) (pa_cons (pv 3) pa_nil)))) (nomark _))
        (pw_or1 (pt_cmpR (op_pap (C := C) r14) (pv 6) (pe_call GP r14 rfl mP kP bP .nil pass0 (pa_cons (pv 2) (pa_cons (pe_op op_add_str (pv 1) pe_str) (pa_cons (pv 3) pa_nil)))) (nomark _)))))) (pss_one (ps_ret pe_bl)) pss_nil)
    (pss_cons (ps_if (PW.pt (pw_or (pt_cmpR (op_pap (C := C) r14) (pv 6) (pv 5) (nomark _)) (pw_or1 (PW.pt (pw_and (pt_cmpR op_lt (pe_callB call_len_seq (by rfl) G.len PySem.boot_len (pa_cons (pv 3) pa_nil)) pe_int (nomark _))
        (pw_and1 (pt_cmpR (op_pap (C := C) r14) (pv 6) (pe_call GP r14 rfl mP kP bP .nil pass0 (pa_cons (pv 2) (pa_cons (pv 1) (pa_cons (pe_op op_cat (pv 3) (pe_lst (pa_cons pe_int pa_nil))) pa_nil)))) (nomark _)))))))) (pss_one (ps_ret pe_bl)) pss_nil)
    (pss_cons (ps_for PassesOwn.never rfl (pi_list (pv 3)) (pg_name (i := 4) scPap.nd rfl (Or.inl rfl)) (pss_one (ps_expr (pe_call GO r1 rfl mO kO bO .nil pass0 (pa_cons (pv 4) pa_nil)))))
    (pss_one (ps_ret (pe_and (pe_call GA r17 rfl mA kA bA .nil pass0 (pa_cons (pe_fld (pv 6) rfl) (pa_cons (pv 5) pa_nil))) (pe_and (pe_cmpR op_eq (pe_fld (pv 6) rfl) (pv 1) (nomark _)) (pe_one (pe_cmpR (op_pap (C := C) r14) (pv 6) (pv 7) (nomark _))))))))))))))), ?_⟩
  have line : (1000 : Nat) < sizeLine := by decide +kernel
  refine seq_par ?_
  refine ⟨(by show 3 ≤ sizeLine; omega), fun l hl => ?_⟩
  have t0 := tub.same (upd_new (o := .lst [V.str "note", .str "good", .str "a"]) hl)
  have pl : l ≠ p := tub.ne hl
  refine dip_c (i := 0) rfl t0 (by omega) (by decide) (by decide +kernel) fun r1 H1 a0 a1 t1 k1 => ?_
  obtain ⟨wd, ew, lw⟩ : ∃ wd : Str, atI [V.str "note", .str "good", .str "a"] r1 = some (.str wd) ∧ wd.length ≤ 4 := by
    have z : r1 = 0 ∨ r1 = 1 ∨ r1 = 2 := by omega
    rcases z with rfl | rfl | rfl
    · exact ⟨"note", rfl, by decide +kernel⟩
    · exact ⟨"good", rfl, by decide +kernel⟩
    · exact ⟨"a", rfl, by decide +kernel⟩
  refine ⟨l, _, r1, _, rfl, rfl, SqL.of (k1 _ _ pl upd_same), ew, ?_⟩
  refine dip_c (i := 0) rfl t1 (by omega) (by decide) (by decide +kernel) fun kd H2 b0 b1 t2 k2 => ?_
  have hkd : kd = 0 ∨ kd = 1 := by omega
  have k02 : Keep p H H2 := ((Same.keep (upd_new hl)).trans k1).trans k2
  refine ⟨_, _, rfl, ?_⟩
  refine seq_asg ?_
  refine rng_c rfl t2 (by omega) fun m H3 hm t3 k3 => ?_
  intro D hD
  have pD : D ≠ p := t3.ne hD
  have k03 : Keep p H H3 := k02.trans k3
  have nD : H D = none := TubAt.free k03 t3 hD
  have cst : cost 3 = 120 := by decide
  refine lc_range (lo := 0) (n := m) (fun i H4 => ∃ vs ts, TubAt H4 p (n + 1 + 1 + 1 + i * 120) ∧ Keep p H3 H4 ∧ H4 D = some (.lst vs) ∧ vs.length = i ∧ AllI (Tr C (hide D (neu H H4)) 3) vs ts ∧ ∀ t ∈ ts, Sml 3 t)
    ⟨[], [], (t3.upd pD).mono (by omega) (by omega), Same.keep (upd_new hD), upd_same, rfl, ⟨rfl, fun i v t e => by simp at e⟩, fun t h => by simp at h⟩ ?_ ?_
  · rintro i H4 hi ⟨vs, ts, t4, k4, h4, hl4, al, sm⟩
    refine ⟨rfl, yes_of ?_⟩
    refine val_k (d := 3) rfl t4 (by omega) fun v t H5 t5 k5 rv sv => ?_
    have h5 := k5 _ _ pD h4
    refine ⟨vs, h5, by omega, vs ++ [v], ts ++ [t], (t5.upd pD).mono (by rw [cst]; omega) (by omega), fun c o ne z => ?_, upd_same, by rw [List.length_append, hl4]; rfl, ?_, fun u hu => ?_⟩
    · rw [upd_ne (ne_of_none z hD)]
      exact k5 _ _ ne (k4 _ _ ne z)
    · exact (AllI.mono al fun _ _ _ _ z => z.same (neu_keep k5 tub.some)).snoc (rv.same (neu_new (k03.trans k4) t4.some h4))
    · rcases List.mem_append.mp hu with z | z
      · exact sm u z
      · exact List.mem_singleton.mp z ▸ sv
  rintro H4 ⟨vs, ts, t4, k4, h4, hl4, al, sm⟩
  have k04 : Keep p H H4 := k03.trans k4
  have tf : TubAt H4 p (n + 400) := t4.mono (by omega) hn
  have l3 : ts.length ≤ 3 := by rw [← al.1]; omega
  have sG : Same (hide D (neu H H4)) H4 := hide_same.trans neu_same
  have gD : hide D (neu H H4) D = none := if_pos rfl
  have gp : ∀ c o, H c = some o → hide D (neu H H4) c = none := fun c o e => by
    unfold hide neu
    split
    · rfl
    · rw [if_neg (by rw [e]; exact (fun z => nomatch z))]
  generalize hide D (neu H H4) = Gv at al sG gD gp
  have sm4 : Sml 4 (.tup ts) := ⟨by omega, sm⟩
  have fg : fix (.tup ts) = .tup (fixL ts) := by rw [fix]
  have fok := fix_ok sm4
  have dep := Sml.depth sm4
  rw [fg] at fok
  have dg : (T.tup (fixL ts)).depth ≤ 10 := by omega
  refine ⟨_, rfl, D, rfl, ⟨_, SqL.of h4⟩, fun D2 nD2 => ?_⟩
  refine lc_list (K := K) (a := D) (xs := vs) (fun i H5 => Same H4 H5 ∧ Done C H5 D2 (fixL ts) i) ⟨upd_new nD2, .zero⟩ (fun i H5 _ z => SqL.of (z.1 _ _ h4)) ?_ ?_
  · rintro i x H5 hx ⟨s5, dn⟩
    obtain ⟨t, et, rt⟩ := al.to hx
    refine ⟨rfl, yes_of ⟨x, rfl, fix9 (E := E0) (rt.same (sG.trans s5)) (sm t (List.mem_of_getElem? et)) (by decide) fun v' H6 s6 r6 => ?_⟩⟩
    obtain ⟨acc, e1, e2, e3⟩ := dn.step (fixL_fx sm) (by rw [fixL_len]; omega) (fixL_get et) s6 r6
    exact ⟨acc, e1, e2, fun c o z => by rw [upd_ne (ne_of_none z nD2)]; exact s6 _ _ (s5 _ _ z), e3⟩
  rintro H5 ⟨s5, dn⟩
  rw [al.1, ← fixL_len] at dn
  obtain ⟨us, e5, rd⟩ := dn.tup
  refine .inl ⟨D2, us, rfl, SqL.of e5, fun q5 nq5 => ?_⟩
  have s6 := upd_new (o := .tup us) nq5
  have rdue := rd q5 nq5
  have due6 : (upd H5 q5 (.tup us)) q5 = some (.tup us) := upd_same
  revert s6 rdue due6
  generalize upd H5 q5 (.tup us) = H6
  intro s6 rdue due6
  have s46 := s5.trans s6
  refine ⟨_, rfl, _, rfl, _, rfl, kd, wd, D, vs, ts, 3, rfl, hkd, s46 _ _ h4, al.mono fun _ _ _ _ z => z.same (sG.trans s46), l3, sm, by decide, fun x H7 s7 nx px => ?_⟩
  rw [fg] at px
  have s47 := s46.trans s7
  refine ⟨_, rfl, _, rfl, _, rfl, D, rfl, ⟨_, SqL.of (s47 _ _ h4)⟩, fun D3 nD3 => ?_⟩
  have gD3 : Gv D3 = none := (sG.trans s47).free nD3
  refine lc_list (K := K) (a := D) (xs := vs) (fun i H8 => Same H7 H8 ∧ ∃ us', H8 D3 = some (.lst us') ∧ us'.length = i ∧ AllI (Tr C (hide D3 H8) 3) us' ((ts.map turnT).take i)) ⟨upd_new nD3, [], upd_same, rfl, ⟨rfl, fun i v t e => by simp at e⟩⟩ (fun i H8 _ z => SqL.of (z.1 _ _ (s47 _ _ h4))) ?_ ?_
  · rintro i z H8 hz ⟨s8, us', e8, l8, al8⟩
    obtain ⟨t, et, rt⟩ := al.to hz
    refine ⟨rfl, yes_of ⟨z, rfl, z, t, Gv, rfl, (sG.trans s47).trans s8, rt, sm t (List.mem_of_getElem? et), fun v' H9 s9 r9 => ?_⟩⟩
    have hi := (List.getElem?_eq_some_iff.mp et).1
    refine ⟨us', s9 _ _ e8, by omega, fun c o y => by rw [upd_ne (ne_of_none y nD3)]; exact s9 _ _ (s8 _ _ y), _, upd_same, by rw [List.length_append, l8]; rfl, ?_⟩
    have et2 : (ts.map turnT).take (i + 1) = (ts.map turnT).take i ++ [turnT t] := by
      have e2 : (ts.map turnT)[i]? = some (turnT t) := by rw [List.getElem?_map, et]; rfl
      obtain ⟨b1, b2⟩ := List.getElem?_eq_some_iff.mp e2
      rw [List.take_succ_eq_append_getElem b1, b2]
    rw [et2]
    refine (AllI.mono al8 fun _ _ _ _ y => y.same fun c o w => ?_).snoc (r9.same (ext_off gD3 e8 ((sG.trans s47).trans s8) s9))
    obtain ⟨w1, w2⟩ := hide_of w
    rw [hide_ne w1, upd_ne w1]
    exact s9 _ _ w2
  rintro H8 ⟨s8, us', e8, l8, al8⟩
  rw [show vs.length = (ts.map turnT).length by rw [List.length_map, al.1], List.take_length] at al8
  have sm' : ∀ t ∈ ts.map turnT, Sml 3 t := fun t ht => by
    obtain ⟨u, hu, rfl⟩ := List.mem_map.mp ht
    exact sml_turn (sm u hu)
  refine ⟨kd, wd, D3, us', ts.map turnT, 3, rfl, hkd, e8, al8.mono fun _ _ _ _ z => z.same hide_same, by rw [List.length_map]; exact l3, sm', by decide, fun y H9 s9 ny py => ?_⟩
  rw [show fix (.tup (ts.map turnT)) = .tup (fixL ts) by rw [fix, fixL_turn sm]] at py
  have s79 := s8.trans s9
  have s49 := s47.trans s79
  have A1 := both_cls AP AD kd
  have A2 := both_cls AP AD (1 - kd)
  have cm := both_cmp c1 c2 hkd
  have px9 := px.same s79
  have due9 := ((s7.trans s79)) _ _ due6
  have rdue9 := rdue.same (s7.trans s79)
  have evr : eqv (.tup (fixL ts)) (.tup (fixL ts)) = true := eqv_refl (Nat.le_refl _) fok.1
  have lsm : Lsm 10 (.tup (fixL ts)) := Lsm.of (fok.2.1.mono (by decide)) fok.1
  obtain ⟨dx, fs, v, gx, lw1, lp1, trx, fxx⟩ := id px9
  refine ⟨_, rfl, x, _, dx, fs, v, rfl, gx, A1.c.cl, A1.c.nP, lp1, _, rfl, v, .ref q5, _, rfl, trx.mono dg, rdue9.mono dg, lsm, fun HA sA => ⟨true, rfl, iteF ?_⟩⟩
  refine ⟨_, rfl, x, _, dx, fs, _, rfl, sA _ _ gx, A1.c.cl, A1.c.nW, lw1, _, rfl, rfl, false, by rw [decide_eq_true rfl]; rfl, iteF ?_⟩
  refine tst_op ?_
  refine bool_cb (K := K) (i := 6) (E := E0) (E' := E0) ?_ hkd (px9.same sA) ?_
  · rfl
  refine ⟨_, rfl, rfl, rfl, false, by rw [decI, decide_eq_true rfl]; rfl, iteF ?_⟩
  refine ⟨_, rfl, _, rfl, pap_same A1 (px9.same sA) (py.same sA) dg dg fun HB sB => ⟨true, by rw [evr, decide_eq_true rfl]; rfl, iteF ?_⟩⟩
  have s9B := sA.trans sB
  refine ⟨_, rfl, _, rfl, 1, kd, rfl, rfl, _, rfl, _, rfl, 1 - kd, wd, D, vs, ts, 3, rfl, by omega, (s49.trans s9B) _ _ h4, al.mono fun _ _ _ _ z => z.same (sG.trans (s49.trans s9B)), l3, sm, by decide, fun z1 HC sC nz1 pz1 => ?_⟩
  rw [fg] at pz1
  refine pap_cls A1 A2 cm ((px9.same s9B).same sC) pz1 dg dg ⟨false, rfl, iteF ?_⟩
  have s9C := s9B.trans sC
  refine ⟨_, rfl, _, rfl, _, rfl, wd, "x", rfl, rfl, ?_, _, rfl, kd, wd ++ "x", D, vs, ts, 3, rfl, hkd, (s49.trans s9C) _ _ h4, al.mono fun _ _ _ _ z => z.same (sG.trans (s49.trans s9C)), l3, sm, by decide, fun z2 HD sD nz2 pz2 => ?_⟩
  · have : (("x" : String) : Str).length = 1 := by decide +kernel
    omega
  rw [fg] at pz2
  refine pap_same A1 ((px9.same s9C).same sD) pz2 dg dg fun HE sE => ⟨false, by rw [decide_eq_false (str_more wd)]; rfl, iteF ?_⟩
  have s9E := (s9C.trans sD).trans sE
  refine ⟨_, rfl, _, rfl, pap_tup A1 (px9.same s9E) dg (s9E _ _ due9) ⟨false, rfl, iteF ?_⟩⟩
  refine ⟨_, rfl, D, vs, rfl, .inl (SqL.of ((s49.trans s9E) _ _ h4)), _, _, rfl, rfl, _, rfl, ?_⟩
  by_cases hl3 : vs.length < 3
  case' pos =>
    rw [decide_eq_true (show (vs.length : Int) < 3 by omega)]
    refine iteT ⟨_, rfl, _, rfl, _, rfl, _, rfl, (by show 1 ≤ sizeLine; omega), fun l7 n7 => ?_⟩
    have s7' := upd_new (o := .lst [V.int 7]) n7
    have sm7 : ∀ t ∈ ts ++ [T.int 7], Sml 3 t := fun t ht => by
      rcases List.mem_append.mp ht with z | z
      · exact sm t z
      · exact List.mem_singleton.mp z ▸ Sml.mono (d := 0) (Nat.zero_le _) (show Sm 200 7 by unfold Sm; decide +kernel)
    have l7' : (ts ++ [T.int 7]).length ≤ 3 := by rw [List.length_append, ← al.1]; show vs.length + 1 ≤ 3; omega
    have fok7 := fix_ok (n := 4) (t := .tup (ts ++ [T.int 7])) ⟨by omega, sm7⟩
    have dep7 := Sml.depth (n := 4) (t := .tup (ts ++ [T.int 7])) ⟨by omega, sm7⟩
    have fg7 : fix (.tup (ts ++ [T.int 7])) = .tup (fixL (ts ++ [T.int 7])) := by rw [fix]
    rw [fg7] at fok7
    refine ⟨D, l7, vs, [.int 7], rfl, rfl, s7' _ _ ((s49.trans s9E) _ _ h4), upd_same, (by show vs.length + 1 ≤ sizeLine; omega), fun L nL => ?_⟩
    have sL := upd_new (o := .lst (vs ++ [V.int 7])) nL
    refine ⟨kd, wd, L, _, ts ++ [T.int 7], 3, rfl, hkd, upd_same, AllI.snoc (al.mono fun _ _ _ _ z => z.same (((sG.trans (s49.trans s9E)).trans s7').trans sL)) (Tr.mono (d := 0) (Nat.zero_le _) rfl), l7', sm7, by decide, fun z3 HF0 sF nz3 pz3 => ?_⟩
    rw [fg7] at pz3
    refine pap_same A1 ((((px9.same s9E).same s7').same sL).same sF) pz3 dg (by omega) fun HF sF2 => ⟨false, by rw [eqv_more (by rw [fixL_len, fixL_len, List.length_append]; show ts.length ≠ ts.length + 1; omega), Bool.and_false], iteF ?_⟩
    have s9F : Same H9 HF := ((((s9E.trans s7').trans sL).trans sF).trans sF2)
  case' neg =>
    rw [decide_eq_false (show ¬ (vs.length : Int) < 3 by omega)]
    refine iteF (iteF ?_)
    obtain ⟨HF, eHF⟩ : ∃ HF, HF = HE := ⟨_, rfl⟩
    rw [← eHF]
    have s9F : Same H9 HF := eHF ▸ s9E
  all_goals
    have s4F := s49.trans s9F
    have gpp : Gv p = none := by
      obtain ⟨_, _, _, e, _⟩ := tub
      exact gp p _ e
    refine ⟨_, rfl, D, rfl, ⟨_, SqL.of (s4F _ _ h4)⟩, ?_⟩
    refine for_list (K := K) (a := D) (xs := vs) (fun i σ H' => ∃ o4 o8, σ = [some (.ref p), some (.str wd), some (.int kd), some (.ref D), o4, some (.ref q5), some (.ref x), some (.ref y), o8] ∧ Same (hd HF) H' ∧ (∀ b o, Gv b = none → HF b = some o → H' b = some o) ∧ ∀ j v t, vs[j]? = some v → ts[j]? = some t → Shp C Gv H' (4 + i) v t)
      ⟨_, _, rfl, hd_same, fun _ _ _ e => e, fun j v t e1 e2 => Shp.of (sG.trans s4F) (al.2 j v t e1 e2) (sm t (List.mem_of_getElem? e2))⟩ (fun i σ H' _ ⟨_, _, _, _, z, _⟩ => SqL.of (z _ _ gD (s4F _ _ h4))) ?_ ?_
    · rintro i z σ H' hz ⟨o4, o8, rfl, h1, h2, h3⟩
      obtain ⟨t, et, rt⟩ := al.to hz
      have hi := (List.getElem?_eq_some_iff.mp et).1
      refine drop_call (i := 4) (v := z) rfl (spoil_shp R RX (h3 i z t hz et) (by omega) ⟨_, _, rfl, h1, h2, fun j v t e1 e2 => (h3 j v t e1 e2).more (by omega)⟩ fun a H'' ga sp => ⟨_, _, rfl, sp.hd h1, fun b o e1 e2 => ?_, fun j v t e1 e2 => (h3 j v t e1 e2).spoilt sp⟩)
      exact sp.1 b o (fun z => ga (z ▸ e1)) (h2 b o e1 e2)
    · rintro σ H' ⟨o4, o8, rfl, h1, h2, h3⟩
      have pxF := ((px9.same s9F).hd).same h1
      have pyF := ((py.same s9F).hd).same h1
      have dueF := (((rdue9.same s9F).hd fok.1)).same h1
      obtain ⟨dx, fs, v, gx, lw1, lp1, trx, fxx⟩ := id pxF
      refine ⟨_, rfl, x, _, dx, fs, v, rfl, gx, A1.c.cl, A1.c.nP, lp1, _, rfl, v, .ref q5, _, rfl, trx.mono dg, dueF.mono dg, lsm, fun HG sg => ⟨true, rfl, iteT ?_⟩⟩
      refine ⟨_, rfl, x, _, dx, fs, _, rfl, sg _ _ gx, A1.c.cl, A1.c.nW, lw1, _, rfl, rfl, true, by rw [decide_eq_true rfl], iteT ?_⟩
      refine ⟨_, rfl, _, rfl, pap_same A1 (pxF.same sg) (pyF.same sg) dg dg fun HK sK => ?_⟩
      rw [evr, decide_eq_true rfl]
      have tF := tf.same s4F
      have toEnd : ∀ c o, Gv c = none → HF c = some o → HK c = some o := fun c o e1 e2 => sK _ _ (sg _ _ (h2 c o e1 e2))
      refine q HK ?_ fun c o ne e => toEnd c o (gp c o e) (s4F _ _ (k04 _ _ ne e))
      obtain ⟨x1, x2, x3, e, pl⟩ := tF
      exact ⟨x1, x2, x3, toEnd p _ gpp e, pl⟩
end
end K2

/-! _law_fixed_right. -/
namespace K2
open PySem PySem.Spec PyProof.Rows L2 K1 LamX

/-- whatever guards a frame stands under, they are some -/
theorem codeAny_any {M : Model} {A : Around} {c : Code} {R : Result → Shared → Prop} {s : Shared} (h : ∀ g, codeAny M { A with guards := some g } c R s) : codeAny M A c R s := fun Γ p hc hb =>
  h (guardsOf Γ.below) Γ p hc ⟨hb.1, hb.2.1, hb.2.2.1, fun g e => by cases e; rfl, hb.2.2.2.2⟩
/-- a def whose body knows the guards that it stands under -/
theorem okG {P : Program} {w : World} {K : PySem.W.Frag} {mg : Str → Option Value} {base : Heap} {x qual : Str} {params : Arguments} {body : List Stmt} {scope : Scope} {dvs : List V} {kws : List (Str × V)} {f : Addr} {fd : FuncData} {N ps : List Str} {k : Nat} {sp : Sp}
    (F : FunD K x qual params body scope dvs kws f fd) (S : FnScope N ps scope) (len : ∀ vs H Q E, sp vs H Q E → vs.length = ps.length)
    (hb : ∀ (cdv : Value) (A : Around) (outer : List Env) (s : Shared) (H : Hp) (vs : List V) (Q : VK) (E : XK) (G0 : List Code), A.guards = some G0 → Room k (A.deeper (envOfC qual scope s.heap.objs.size f cdv)) → sp vs H Q E →
      ∃ t, PSs (cxOf CX0 P w K mg base N qual scope f cdv A outer s H E).nox body t ∧ t { nx := fun _ H' => Q .non H', rt := Q } (start N vs) H) : FnOk P w K mg base CX0 (k + 1) f fd ps sp := by
  obtain ⟨oc, od, dV, kV, doc, pm, an, cdv, ct, osl, rfl, lk, hcd, _, _⟩ := F.ex
  refine ⟨len, fun A outer s H args us vs Q E hr e0 hbd r hsp => codeAny_any fun g => ?_⟩
  refine run_ofS (A := { A with guards := some g }) lk hcd S ⟨hr.hd, hr.dp, hr.un⟩ ⟨e0.frames, e0.mod, e0.bs, e0.bsz, e0.funs, e0.frf, e0.hok, e0.bare⟩ hbd r (len _ _ _ _ hsp) fun hr2 => ?_
  obtain ⟨t, h1, h2⟩ := hb cdv { A with guards := some g } outer s H vs Q E g rfl hr2 hsp
  exact ⟨t, h1.nox, h2⟩
theorem RpT.later {X : Cx} {G0 : List Code} {k : Nat} {H H' : Hp} {v : V} {t : Str} (r : RpT X G0 k H v t) (s : Same H H') : RpT X G0 k H' v t :=
  fun A E pins σ s0 H1 u Q hz hg hf hr I hs rv hq => r A E pins σ s0 H1 u Q hz hg hf hr I (s.trans hs) rv hq
abbrev NFixR : List Str := ["_law_crate_here", "_law_value_here", "_law_ahead", "_law_due", "_law_told"]
section
variable {P : Program} {w : World} {K : PySem.W.Frag} {mg : Str → Option Value} {base : Heap} {f C : Addr} {fd : FuncData}
theorem scFixR : FnScope NFixR ["_law_crate_here"] (defScope sFixedRight) := ⟨rfl, rfl, rfl, by decide +kernel, rfl, by decide +kernel, by decide +kernel⟩
theorem ok_fixr (G : Glob mg) (HR : HasRepr P w K mg base C) (FV : Fn0 P w K mg base 9 "_law_value" ["_law_crate_here", "_law_depth"] (spVal C 4)) (FL : Fn0 P w K mg base 11 "_law_fixed" ["_law_value_here"] (spFix C 9)) (FX : Fn0 P w K mg base 11 "fixed" ["value"] (spFix C 9))
    (FS : Fn0 P w K mg base 17 "_law_same" ["_law_told", "_law_due"] (spSame C 10)) (F : DefAt K "_law_fixed_right" "_law_fixed_right" sFixedRight f fd) : FnOk P w K mg base CX0 19 f fd ["_law_crate_here"] (spRight C 400) := by
  obtain ⟨fr, fdr, MR, bR, GR⟩ := HR.h
  obtain ⟨fv, fdv, mV, kV', bV, GV⟩ := FV.h
  obtain ⟨fl, fdl, mL, kL, bL, GL⟩ := FL.h
  obtain ⟨fx, fdx, mX, kX, bX, GX⟩ := FX.h
  obtain ⟨fa, fda, mA, kA, bA, GA⟩ := FS.h
  refine okG F scFixR (fun vs H Q E ⟨_, _, e, _⟩ => by rw [e]; rfl) (fun cdv A outer s H vs Q E G0 hA hr ⟨p, n, e, tub, hn, q⟩ => ?_)
  subst e
  have r9 := hr.mono (show 9 ≤ 18 by decide)
  have r11 := hr.mono (show 11 ≤ 18 by decide)
  have r17 := hr.mono (show 17 ≤ 18 by decide)
  have hg : (cxOf CX0 P w K mg base NFixR "_law_fixed_right" (defScope sFixedRight) f cdv A outer s H E).nox.A.guards = some G0 := hA
  refine ⟨_, pss_cons (ps_set (i := 1) scFixR.nd rfl (Or.inl rfl) (pe_call GV r9 rfl mV kV' bV .nil pass0 (pa_cons (pv 0) (pa_cons pe_int pa_nil))))
    (pss_cons (ps_par (i := 2) (j := 3) (by rfl) scFixR.nd rfl rfl (by decide) rfl rfl (pa_cons (pe_callB (call_reprX hg) (by rfl) G.repr (by decide +kernel) (pa_cons (pv 1) pa_nil)) (pa_cons (pe_call GL r11 rfl mL kL bL .nil pass0 (pa_cons (pv 1) pa_nil)) pa_nil)) (by rfl))
    (pss_cons (ps_set (i := 4) scFixR.nd rfl (Or.inl rfl) (pe_call GX r11 rfl mX kX bX .nil pass0 (pa_cons (pv 1) pa_nil)))
    (pss_one (ps_ret (pe_and (pe_call GA r17 rfl mA kA bA .nil pass0 (pa_cons (pv 4) (pa_cons (pv 3) pa_nil))) (pe_and (pe_cmpR op_eq (pe_callB (call_reprX hg) (by rfl) G.repr (by decide +kernel) (pa_cons (pv 1) pa_nil)) (pv 2) (nomark _))
      (pe_one (pe_call GA r17 rfl mA kA bA .nil pass0 (pa_cons (pe_call GX r11 rfl mX kX bX .nil pass0 (pa_cons (pv 4) pa_nil)) (pa_cons (pv 3) pa_nil)))))))))), ?_⟩
  have cst : cost 4 = 363 := by decide
  refine seq_asg ?_
  refine val_k (d := 4) rfl tub (by omega) fun v t H1 t1 k1 tr sm => ?_
  have sn : Same (neu H H1) H1 := neu_same
  have ro : ReprOf (cxOf CX0 P w K mg base NFixR "_law_fixed_right" (defScope sFixedRight) f cdv A outer s H E).nox C fr fdr 4 (RpP C) := ⟨GR.imp fun vs H Q E ⟨a, t, e, ⟨x, y, h1, h2, h3, h4⟩, q⟩ => ⟨a, x, y, e, h1, h2, h3, by rw [← h4]; exact q H (Same.refl _)⟩, bR, MR.at_, MR.fn⟩
  have tr1 := tr.same sn
  obtain ⟨_, x, lx, rx⟩ := Tr.rpU (G0 := G0) ro tr1 sm
  have lx2 : x.length ≤ sizeLine := Nat.le_trans lx (by decide +kernel)
  have dep := Sml.depth sm
  obtain ⟨f1, f2, f3⟩ := fix_ok sm
  have lsm : Lsm 10 (fix t) := Lsm.of (f2.mono (by decide)) f1
  refine seq_par ?_
  refine ⟨_, rfl, v, _, x, rfl, rx, r9, lx2, fun H2 s2 => ?_⟩
  refine ⟨_, rfl, fix9 (E := E0) (tr1.same s2) sm (by decide) fun due H3 s3 rd => ?_⟩
  refine ⟨_, _, rfl, ?_⟩
  refine ⟨_, rfl, fix9 (E := E0) ((tr1.same s2).same s3) sm (by decide) fun told H4 s4 rt => ?_⟩
  refine ⟨_, rfl, _, rfl, told, due, fix t, rfl, rt.mono (by omega), (rd.same s4).mono (by omega), lsm, fun H5 s5 => ⟨true, rfl, iteT ?_⟩⟩
  have s15 := ((s2.trans s3).trans s4).trans s5
  refine ⟨_, rfl, v, _, x, rfl, rx.later s15, r9, lx2, fun H6 s6 => ?_⟩
  refine ⟨_, rfl, rfl, true, by rw [decide_eq_true rfl], iteT ?_⟩
  refine ⟨_, rfl, fix9 (E := E0) (((rt.same s5).same s6).mono (show (fix t).depth ≤ 2 * 4 by omega)) f2 (by omega) fun v2 H7 s7 r7 => ?_⟩
  rw [fix_fix sm] at r7
  have s47 := (s5.trans s6).trans s7
  refine ⟨_, rfl, v2, due, fix t, rfl, r7.mono (by omega), ((rd.same s4).same s47).mono (by omega), lsm, fun H8 s8 => ?_⟩
  have s18 := ((s15.trans s6).trans s7).trans s8
  exact q H8 ((t1.same s18).mono (by omega) hn) fun c o ne e => s18 _ _ (k1 _ _ ne e)
end
end K2

/-! Keeper("kin", 1). -/
namespace K2
open PySem PySem.Spec PyProof.Rows L2 K1 LamX

/-- what is never run -/
theorem pe_dead {X : Cx} {e : Expr} : PE X e (fun _ _ _ => False) := ⟨fun _ _ _ _ _ _ h => h.elim⟩
theorem ps_dead {X : Cx} {st : Stmt} : PS X st (fun _ _ _ => False) := ⟨fun _ _ _ _ _ _ h => h.elim⟩
theorem pss_dead {X : Cx} {st : List Stmt} : PSs X st (fun _ _ _ => False) := ⟨fun _ _ _ _ _ _ h => h.elim⟩
/-- the texts and numbers that the module holds -/
structure CN (mg : Str → Option Value) : Prop where
  dig : ∃ u, mg "DIGITS" = some u ∧ RelV (.str (Str.ofString "0123456789")) u
  let_ : ∃ u, mg "LETTERS" = some u ∧ RelV (.str (Str.ofString "abcdefghijklmnopqrstuvwxyz")) u
  s12 : ∃ u, mg "MOST_SIGNS" = some u ∧ RelV (.int 12) u
def spKin : Sp := fun vs H Q _ => vs = [.str "kin"] ∧ ∀ H', Same H H' → Q (.bl true) H'
def spNone : Sp := fun vs H Q _ => ∃ q, vs = [.ref q] ∧ H q = some (.tup []) ∧ ∀ H', Same H H' → Q (.bl true) H'
def spTwice : Sp := fun vs H Q _ => ∃ q, vs = [.ref q] ∧ H q = some (.tup []) ∧ ∀ H', Same H H' → Q .non H'
def spAmt : Sp := fun vs H Q _ => vs = [.int 1] ∧ ∀ H', Same H H' → Q (.bl true) H'
theorem kin_at : ∀ (i : Nat) (c : Nat), ("kin" : Str).cps[i]? = some c → c ∈ (Str.ofString "abcdefghijklmnopqrstuvwxyz").cps.toList := by
  intro i c h
  have al : ("kin" : Str).cps.toList.all (fun c => decide (c ∈ (Str.ofString "abcdefghijklmnopqrstuvwxyz").cps.toList)) = true := by decide +kernel
  have m : c ∈ ("kin" : Str).cps.toList := List.mem_of_getElem? (i := i) (by simpa using h)
  exact of_decide_eq_true (List.all_eq_true.mp al c m)
section
variable {P : Program} {w : World} {K : PySem.W.Frag} {mg : Str → Option Value} {base : Heap} {f C CB CK : Addr} {fd : FuncData}
theorem scName : FnScope ["value", "sign"] ["value"] (defScope sIsName) := ⟨rfl, rfl, rfl, by decide +kernel, rfl, by decide +kernel, by decide +kernel⟩
theorem ok_kin (G : Glob mg) (CO : CN mg) (F : DefAt K "is_name" "is_name" sIsName f fd) : FnOk P w K mg base CX0 1 f fd ["value"] spKin := by
  obtain ⟨ul, gl, rl⟩ := CO.let_
  obtain ⟨u6, g6, r6⟩ := CO.s12
  refine okN F scName (fun vs H Q E ⟨e, _⟩ => by rw [e]; rfl) (fun cdv A outer s H vs Q E hr ⟨e, q⟩ => ?_)
  subst e
  refine ⟨_, pss_cons (ps_if (PW.pt (pw_or (pt_not (pt_val (pe_callB call_isi (by rfl) G.isi (by decide +kernel) (pa_cons (pv 0) (pa_cons (pe_bltn (by rfl) G.str (by decide +kernel) (v := .ty "str") rfl) pa_nil)))))
      (pw_or1 (pt_not (pt_chain op_le op_le pe_int (pe_callB call_len_str (by rfl) G.len PySem.boot_len (pa_cons (pv 0) pa_nil)) (pe_glob (v := .int 12) rfl g6 r6)))))) pss_dead pss_nil)
    (pss_one (ps_ret (pe_and (pe_cmpR op_in_sign (pe_ix ix_str (pv 0) pe_int (fun _ _ => rfl)) (pe_glob (v := .str (Str.ofString "abcdefghijklmnopqrstuvwxyz")) rfl gl rl) rfl)
      (pe_one (pe_callB (cr_all rfl) (by rfl) G.all (by decide +kernel) (pa_cons
          (pe_lc (own := [("sign", 1)]) (g := gName 1) (tt := tYes) rfl scName.nd (pi_str (pv 0)) (blkOk_by (N := ["value", "sign"]) (sc := defScope sIsName) (by decide +kernel))
            (fun _ _ _ _ _ => pg_name (i := 1) scName.nd rfl (Or.inl rfl)) (fun _ _ _ _ _ => pts_nil) (fun _ _ _ _ _ => pe_or (pe_cmpR op_in_sign (pv 1) (pe_glob (v := .str (Str.ofString "abcdefghijklmnopqrstuvwxyz")) rfl gl rl) rfl) (pe_one pe_dead))) pa_nil)))))), ?_⟩
  have line : (1000 : Nat) < sizeLine := by decide +kernel
  have l3 : ("kin" : Str).length = 3 := by decide +kernel
  refine ⟨_, rfl, _, _, _, _, _, rfl, .ty "str", .base (.str _), kit_ty (a := "str") (b := "str") (r := true) (by decide +kernel), true, rfl, iteF ?_⟩
  refine ⟨_, rfl, _, rfl, (by omega), _, _, rfl, rfl, true, by rw [l3]; rfl, iteT ⟨_, _, rfl, rfl, true, by rw [l3]; rfl, iteF ?_⟩⟩
  refine ⟨_, rfl, _, 0, 107, rfl, rfl, (by omega), rfl, 107, _, rfl, rfl, true, by rw [decide_eq_true (by decide +kernel)], iteT ?_⟩
  refine ⟨_, rfl, _, rfl, fun D hD => ?_⟩
  refine lc_it walk_str (fun i H2 => Same H H2 ∧ H2 D = some (.lst (List.replicate i (V.bl true)))) ⟨upd_new hD, upd_same⟩ (fun _ _ _ _ => trivial) ?_ ?_
  · rintro i x H2 H3 hi ⟨s2, h2⟩ ⟨rfl, d, hd, rfl⟩
    refine ⟨rfl, yes_of ⟨_, rfl, d, _, rfl, rfl, true, by rw [decide_eq_true (kin_at i d hd)], iteT ?_⟩⟩
    exact ⟨_, h2, by rw [List.length_replicate]; have : i < 3 := by have z : ("kin" : Str).cps.size = 3 := by decide +kernel
                                                                    omega
                     omega, fun c o z => by rw [upd_ne (ne_of_none z hD)]; exact s2 _ _ z, by rw [upd_same, List.replicate_succ']⟩
  · rintro H2 ⟨s2, h2⟩
    refine ⟨D, List.replicate _ true, rfl, SqL.of (by rw [h2, List.map_replicate]), ?_⟩
    rw [all_true]
    exact q H2 s2
theorem scNames : FnScope ["value", "item"] ["value"] (defScope sAreNames) := ⟨rfl, rfl, rfl, by decide +kernel, rfl, by decide +kernel, by decide +kernel⟩
theorem ok_names (G : Glob mg) (HL : HasListed P w K mg base) (F : DefAt K "are_names" "are_names" sAreNames f fd) : FnOk P w K mg base CX0 2 f fd ["value"] spNone := by
  obtain ⟨fl, fdl, mL, kL, bL, GL⟩ := HL.h
  refine okN F scNames (fun vs H Q E ⟨_, e, _⟩ => by rw [e]; rfl) (fun cdv A outer s H vs Q E hr ⟨a, e, h, q⟩ => ?_)
  subst e
  refine ⟨_, pss_one (ps_ret (pe_and (pe_call GL hr rfl mL kL bL .nil pass0 (pa_cons (pv 0) pa_nil))
        (pe_one (pe_callB (cr_all rfl) (by rfl) G.all (by decide +kernel) (pa_cons
          (pe_lc (own := [("item", 1)]) (g := gName 1) (tt := tYes) rfl scNames.nd (pi_tup (pv 0)) (blkOk_by (N := ["value", "item"]) (sc := defScope sAreNames) (by decide +kernel))
            (fun _ _ _ _ _ => pg_name (i := 1) scNames.nd rfl (Or.inl rfl)) (fun _ _ _ _ _ => pts_nil) (fun _ _ _ _ _ => pe_dead)) pa_nil))))), ?_⟩
  refine ⟨_, rfl, _, _, _, rfl, .tup h, is_tup, fun H1 s1 => ⟨true, rfl, iteT ?_⟩⟩
  refine ⟨_, rfl, a, rfl, ⟨_, SqT.of (s1 _ _ h)⟩, fun D hD => ?_⟩
  refine lc_tup (K := K) (a := a) (xs := []) (g := gName 1) (tt := tYes) (te := fun _ _ _ => False) (vs := [1]) (σ := L2.start ["value", "item"] [V.ref a]) (fun i H2 => Same H1 H2 ∧ H2 D = some (.lst [])) ⟨upd_new hD, upd_same⟩ (fun i H2 _ z => SqT.of (z.1 _ _ (s1 _ _ h))) (fun i x H2 hx => by simp at hx) ?_
  rintro H2 ⟨s2, h2⟩
  exact ⟨D, [], rfl, SqL.of h2, q H2 (s1.trans s2)⟩
theorem scTwice : FnScope ["items", "met", "item"] ["items"] (defScope sNoneTwice) := ⟨rfl, rfl, rfl, by decide +kernel, rfl, by decide +kernel, by decide +kernel⟩
theorem ok_twice (F : DefAt K "check_none_twice" "check_none_twice" sNoneTwice f fd) : FnOk P w K mg base CX0 1 f fd ["items"] spTwice := by
  refine okN F scTwice (fun vs H Q E ⟨_, e, _⟩ => by rw [e]; rfl) (fun cdv A outer s H vs Q E hr ⟨a, e, h, q⟩ => ?_)
  subst e
  refine ⟨_, pss_cons (ps_set (i := 1) scTwice.nd rfl (Or.inl rfl) pe_dnewK) (pss_one (ps_for PassesOwn.never rfl (pi_tup (pv 0)) (pg_name (i := 2) scTwice.nd rfl (Or.inl rfl)) pss_dead)), ?_⟩
  intro M hM
  have sM := upd_new (o := .dK []) hM
  refine ⟨_, rfl, a, rfl, ⟨_, SqT.of (sM _ _ h)⟩, ?_⟩
  exact for_tup (K := K) (a := a) (xs := []) (g := gName 2) (tb := fun _ _ _ => False) (D := { nx := fun _ H' => Q .non H', rt := Q }) (fun i σ H2 => Same H H2) sM (fun i σ H2 _ z => SqT.of (z _ _ h)) (fun i x σ H2 hx => by simp at hx) fun σ H2 z => q H2 z
/-- Ratio.of, Ratio's sign -/
structure HasOf2 (P : Program) (w : World) (K : PySem.W.Frag) (mg : Str → Option Value) (base : Heap) (C CB : Addr) : Prop where
  g : mg "Ratio" = some (.ref C)
  rd : ClX.CRead K C (.type "type")
  h : ∃ f fd, SMet K C "of" f ∧ Binds K fd ["value"] [] ∧ FnOk P w K mg base (L2.CX P w) 6 f fd ["value"] (spOf C CB)
  s : ∃ p f fd, PropOf K C "sign" p f ∧ Binds K fd ["self"] [] ∧ FnOk P w K mg base CX0 1 f fd ["self"] (spTell C fun t _ => .int (sgn t))
theorem scAmt : FnScope ["value"] ["value"] (defScope sIsAmount) := ⟨rfl, rfl, rfl, by decide +kernel, rfl, by decide +kernel, by decide +kernel⟩
theorem ok_amt (R : RatF K C) (HQ : HasIsR P w K mg base C) (HO : HasOf2 P w K mg base C CB) (F : DefAt K "is_amount" "is_amount" sIsAmount f fd) : FnOk P w K mg base CX0 7 f fd ["value"] spAmt := by
  obtain ⟨fq, fdq, mQ, kQ, bQ, GQ⟩ := HQ.h
  obtain ⟨fo, fdo, MO, bO, GO⟩ := HO.h
  obtain ⟨sp, sf, sfd, PS, bS, GS⟩ := HO.s
  refine okN F scAmt (fun vs H Q E ⟨e, _⟩ => by rw [e]; rfl) (fun cdv A outer s H vs Q E hr ⟨e, q⟩ => ?_)
  subst e
  refine ⟨_, pss_one (ps_ret (pe_and (pe_call GQ (hr.mono (by decide)) rfl mQ kQ bQ .nil pass0 (pa_cons (pv 0) pa_nil))
    (pe_one (pe_cmpR op_ge (pe_prop (pe_smeth (pe_glob (v := .ref C) rfl HO.g rfl) HO.rd MO GO (hr.mono (by decide)) bO passL (pa_cons (pv 0) pa_nil)) R.cl PS GS (hr.mono (by decide)) bS .nil pass0 rfl) pe_int (nomark _))))), ?_⟩
  refine ⟨_, rfl, _, rfl, .inl ⟨1, 1, .inr ⟨rfl, rfl⟩, true, rfl, iteT ?_⟩⟩
  refine ⟨rfl, _, rfl, _, rfl, .inl ⟨1, 1, .inr ⟨rfl, rfl⟩, by unfold Sm; decide +kernel, fun p H1 s1 r => ?_⟩⟩
  obtain ⟨dx, g⟩ := id r
  refine ⟨p, dx, _, rfl, g, p, 1, 1, rfl, r, _, _, rfl, rfl, ?_⟩
  show Q (.bl (decide ((0 : Int) ≤ sgn 1))) H1
  rw [decide_eq_true (by decide +kernel)]
  exact q H1 s1
/-! the making -/
def spKI (CK : Addr) : Sp := fun vs H Q _ => ∃ (p dx q : Addr), vs = [.ref p, .str "kin", .int 1, .ref q] ∧ H p = some (.ins CK dx []) ∧ H q = some (.tup []) ∧ ∀ H' fs, Same (hide p H) H' → H' p = some (.ins CK dx fs) → Q .non H'
structure KeepC (K : PySem.W.Frag) (CK : Addr) : Prop where
  cl : Cls K CK
  n1 : NoAttr K CK "name"
  n2 : NoAttr K CK "purse"
  n3 : NoAttr K CK "relied_on_by"
def NKI : List Str := ["self", "name", "purse", "relied_on_by"]
theorem scKI : FnScope NKI (([("self" : Str), "name", "purse"] : List Str) ++ [("relied_on_by" : Str)]) (defScope sKInit) := ⟨rfl, rfl, rfl, by decide +kernel, rfl, by decide +kernel, by decide +kernel⟩
def spKStar (CK : Addr) : Sp := fun vs H Q E => ∃ ws rest, vs = ws ++ rest ∧ ws.length = 3 ∧ rest.length ≤ sizeLine ∧ ∀ p, H p = none → spKI CK (ws ++ [V.ref p]) (upd H p (.tup rest)) Q E
theorem ok_kinit (G : Glob mg) (G2 : Glob2 mg) (B : KeepC K CK) (HN : Fn0 P w K mg base 1 "is_name" ["value"] spKin) (HA : Fn0 P w K mg base 7 "is_amount" ["value"] spAmt) (HS : Fn0 P w K mg base 2 "are_names" ["value"] spNone) (HT : Fn0 P w K mg base 1 "check_none_twice" ["items"] spTwice)
    (HO : HasOf2 P w K mg base C CB) (F : DefAt K "__init__" "Keeper.__init__" sKInit f fd) : FnR P w K mg base CX0 12 f (spKStar CK) := by
  obtain ⟨fn, fdn, mN, kN, bN, GN⟩ := HN.h
  obtain ⟨fa, fda, mA, kA, bA, GA⟩ := HA.h
  obtain ⟨fs, fds, mS, kS, bS, GS⟩ := HS.h
  obtain ⟨ft, fdt, mT, kT, bT, GT⟩ := HT.h
  obtain ⟨fo, fdo, MO, bO, GO⟩ := HO.h
  obtain ⟨oc, od, dV, kV, doc, pm, an, cdv, ct, osl, rfl, lk, hcd, hD, _⟩ := F.ex
  have hD : dV = .none := hD.elim (·.2) fun z => absurd rfl z.1
  subst hD
  refine StX.fn_star (ps := ["self", "name", "purse"]) (pv := "relied_on_by") (N := NKI) (k := 11) lk hcd scKI StX.cxUp_none (fun us rest hl => match us, hl with | [_, _, _], _ => by cases rest <;> rfl) (fun A outer s H vs Q E hr ⟨p, dx, q, e, hp, hq, k⟩ => ?_)
  subst e
  refine ⟨_, PSs.nox (pss_cons (ps_if (pt_not (pt_val (pe_call GN (hr.mono (by decide)) rfl mN kN bN .nil pass0 (pa_cons (pv 1) pa_nil)))) pss_dead pss_nil)
    (pss_cons (ps_if (pt_not (pt_val (pe_call GA (hr.mono (by decide)) rfl mA kA bA .nil pass0 (pa_cons (pv 2) pa_nil)))) pss_dead pss_nil)
    (pss_cons (ps_if (pt_not (pt_val (pe_call GS (hr.mono (by decide)) rfl mS kS bS .nil pass0 (pa_cons (pv 3) pa_nil)))) pss_dead pss_nil)
    (pss_cons (ps_expr (pe_call GT (hr.mono (by decide)) rfl mT kT bT .nil pass0 (pa_cons (pv 3) pa_nil)))
    (pss_cons (ps_fld (pv 0) (pv 1) rfl)
    (pss_cons (ps_fld (pv 0) (pe_smeth (pe_glob (v := .ref C) rfl HO.g rfl) HO.rd MO GO (hr.mono (by decide)) bO passL (pa_cons (pv 2) pa_nil)) rfl)
    (pss_one (ps_fld (pv 0) (pe_tupleOf (by rfl) G.tup (pe_callB cr_sorted (by rfl) G2.sorted (by decide +kernel) (pa_cons (pe_callTy call_list_of (by rfl) G.lst (by decide +kernel) (pa_cons (pv 3) pa_nil)) pa_nil))) rfl)))))))), ?_⟩
  have hpq : q ≠ p := by rintro rfl; rw [hq] at hp; cases hp
  refine ⟨_, rfl, rfl, fun H1 s1 => ⟨true, rfl, iteF ?_⟩⟩
  refine ⟨_, rfl, rfl, fun H2 s2 => ⟨true, rfl, iteF ?_⟩⟩
  refine ⟨_, rfl, q, rfl, s2 _ _ (s1 _ _ hq), fun H3 s3 => ⟨true, rfl, iteF ?_⟩⟩
  have s13 := (s1.trans s2).trans s3
  refine ⟨_, rfl, q, rfl, s13 _ _ hq, fun H4 s4 => ?_⟩
  have s14 := s13.trans s4
  refine ⟨_, rfl, _, rfl, p, CK, dx, [], rfl, s14 _ _ hp, B.cl, B.n1, (by show 0 < 1000; decide), ?_⟩
  refine ⟨rfl, _, rfl, _, rfl, .inl ⟨1, 1, .inr ⟨rfl, rfl⟩, by unfold Sm; decide +kernel, fun p1 H6 s6 r6 => ?_⟩⟩
  have h6 := s6 _ _ upd_same
  refine ⟨_, rfl, p, CK, dx, _, rfl, h6, B.cl, B.n2, (by show 1 < 1000; decide), ?_⟩
  have hq6 : H6 q = some (.tup []) := s6 _ _ (by rw [upd_ne hpq]; exact s14 _ _ hq)
  refine ⟨_, rfl, q, [], rfl, .inr (SqT.of (by rw [upd_ne hpq]; exact hq6)), fun l hl => ?_⟩
  have nlp : l ≠ p := by rintro rfl; rw [upd_same] at hl; cases hl
  refine ⟨l, [], rfl, SqL.of upd_same, by decide, fun ns p2 pm srt hp2 => ?_⟩
  have np2 : p2 ≠ p := by rintro rfl; rw [upd_ne nlp.symm, upd_same] at hp2; cases hp2
  refine .inl ⟨p2, _, rfl, SqL.of upd_same, fun t ht => ?_⟩
  have ntp : t ≠ p := by rintro rfl; rw [upd_ne np2.symm, upd_ne nlp.symm, upd_same] at ht; cases ht
  refine ⟨_, rfl, p, CK, dx, _, rfl, by rw [upd_ne ntp.symm, upd_ne np2.symm, upd_ne nlp.symm]; exact upd_same, B.cl, B.n3, (by show 2 < 1000; decide), ?_⟩
  refine k _ _ (fun b o e => ?_) upd_same
  obtain ⟨e1, e2⟩ := hide_of e
  rw [upd_ne e1]
  have e6 : H6 b = some o := s6 _ _ (by rw [upd_ne e1]; exact s14 _ _ e2)
  have f1 := upd_new (o := .lst []) hl b o (by rw [upd_ne e1]; exact e6)
  have f2 := upd_new (o := .lst (ns.map V.int)) hp2 b o f1
  exact upd_new (o := .tup (ns.map V.int)) ht b o f2
/-- Keeper("kin", 1) as a thing that is made -/
structure HasKeep (P : Program) (w : World) (K : PySem.W.Frag) (mg : Str → Option Value) (base : Heap) (CK : Addr) : Prop where
  g : mg "Keeper" = some (.ref CK)
  m : ∃ f, Mk K CK f ∧ FnR P w K mg base CX0 12 f (spKStar CK)
theorem mk_keep {CK : Addr} {H1 : Hp} {Q : VK} {E : XK} (q : ∀ x dx fs H', Same H1 H' → H' x = some (.ins CK dx fs) → Q (.ref x) H') :
    ∀ x dx, H1 x = none → H1 dx = none → dx ≠ x → spKStar CK [V.ref x, V.str "kin", V.int 1] (upd (upd H1 dx (.own x)) x (.ins CK dx [])) (fun v H2 => v = .non ∧ Q (.ref x) H2) E := by
  intro x dx hx hd ne
  refine ⟨[V.ref x, V.str "kin", V.int 1], [], rfl, rfl, Nat.zero_le _, fun p hp => ?_⟩
  have px : p ≠ x := by rintro rfl; rw [upd_same] at hp; cases hp
  have hp1 : H1 p = none := by
    rw [upd_ne px] at hp
    by_cases e : p = dx
    · subst e; rw [upd_same] at hp; cases hp
    · rw [upd_ne e] at hp; exact hp
  refine ⟨x, dx, p, rfl, by rw [upd_ne px.symm]; exact upd_same, upd_same, fun H' fs s h => ⟨rfl, q x dx fs H' (fun b u e => s _ _ ?_) h⟩⟩
  rw [hide_ne (ne_of_none e hx), upd_ne (ne_of_none e hp1), upd_ne (ne_of_none e hx), upd_ne (ne_of_none e hd)]
  exact e
end
end K2

/-! _law_kinds_right. -/
namespace K2
open PySem PySem.Spec PyProof.Rows L2 K1 LamX

/-- the class of an other paper, made by its one part -/
structure HasOne (P : Program) (w : World) (K : PySem.W.Frag) (mg : Str → Option Value) (base : Heap) (C CP : Addr) (nm : Str) (wd fld : Str) : Prop where
  g : mg nm = some (.ref CP)
  m : ∃ f fd, Mk K CP f ∧ FnOk P w K mg base CX0 12 f fd ["self", fld] (sp1 C CP wd fld) ∧ Binds K fd ["self", fld] [] ∧ KBn K fd ["self", fld] 1 [fld] (fun us ws => us ++ ws) (fun vs zs => vs ++ zs)
  na : NoAttr K CP fld
/-- Least -/
structure HasFour (P : Program) (w : World) (K : PySem.W.Frag) (mg : Str → Option Value) (base : Heap) (C CP : Addr) : Prop where
  g : mg "Least" = some (.ref CP)
  m : ∃ f fd, Mk K CP f ∧ FnOk P w K mg base CX0 12 f fd ["self", "number", "row", "pinch", "fence"] (sp4 C CP) ∧ Binds K fd ["self", "number", "row", "pinch", "fence"] [] ∧
    ∃ g : List Value → List Value → List Value, KBn K fd ["self", "number", "row", "pinch", "fence"] 1 ["fence", "pinch", "number", "row"] g (fun vs zs => vs ++ [zs.getD 2 .non, zs.getD 3 .non, zs.getD 1 .non, zs.getD 0 .non])
  n1 : NoAttr K CP "number"
  n2 : NoAttr K CP "row"
  n3 : NoAttr K CP "pinch"
  n4 : NoAttr K CP "fence"
/-- bool of any paper -/
def rBoolAny (P : Program) (w : World) (K : PySem.W.Frag) (mg : Str → Option Value) (base : Heap) : List V → Hp → VK → Prop := fun xs H Q => ∃ a CP dx fs b, xs = [.ref a] ∧ H a = some (.ins CP dx fs) ∧ HasBool P w K mg base CP b ∧ Q (.bl b) H
theorem call_boolAny {X : Cx} (hr : Room 3 X.A) : CallR X (.type "bool") (rBoolAny X.prog X.w X.K X.mg X.base) := by
  intro pins s σ H xs us Q I r ⟨a, CP, dx, fs, b, e, g, hb, q⟩
  obtain ⟨f, fd, M, B, F⟩ := hb.h
  exact call_boolO (X := X) (CX := CX0) (E := E0) M F hr B pass0 pins s σ H xs us Q I r ⟨a, dx, fs, e, g, a, rfl, b, rfl, q⟩
theorem AllI.nil' {R : V → T → Prop} : AllI R [] [] := ⟨rfl, fun i v t e => by simp at e⟩
theorem AllI.cons' {R : V → T → Prop} {v : V} {t : T} {vs : List V} {ts : List T} (r : R v t) (h : AllI R vs ts) : AllI R (v :: vs) (t :: ts) := ⟨by rw [List.length_cons, List.length_cons, h.1], fun i w u e1 e2 => by
  cases i with
  | zero => simp at e1 e2; subst e1 e2; exact r
  | succ i => exact h.2 i w u (by simpa using e1) (by simpa using e2)⟩
theorem Row.cons' {C : Addr} {H : Hp} {u : V} {g : T} {us : List V} {gs : List T} (r : Tr C H g.depth u g) (h : Row C H us gs) : Row C H (u :: us) (g :: gs) := Row.app (Row.one r) h
theorem neu_later {p : Addr} {H H1 H' : Hp} (k : Keep p H1 H') (hp : H p ≠ none) : Same (neu H H1) H' := fun b o e => by
  have e2 := neu_same _ _ e
  refine k b o ?_ e2
  rintro rfl
  unfold neu at e
  rw [if_neg hp] at e
  cases e
theorem or_tst {r : R2} {ta tb : TE} {u : TT} {σ : L2.St} {H : Hp} {Q : Bool → Hp → Prop} (h : ta σ H fun x H1 => tb σ H1 fun y H2 => r x y H2 fun z H3 => ∃ k, z = .bl k ∧ if k = true then Q true H3 else u σ H3 Q) : tOr (tTest (tOp r ta tb)) u σ H Q := h
/-- what the law asks of the classes beside their making -/
structure KinF (P : Program) (w : World) (K : PySem.W.Frag) (mg : Str → Option Value) (base : Heap) (C CP CD CK cL cG cS cN cA cT : Addr) : Prop where
  aP : PapAll P w K mg base C CP
  aL : PapAll P w K mg base C cL
  aG : PapAll P w K mg base C cG
  aS : PapAll P w K mg base C cS
  aN : PapAll P w K mg base C cN
  aA : PapAll P w K mg base C cA
  aT : PapAll P w K mg base C cT
  cGA : Cmp K cG cA
  cPG : Cmp K CP cG
  bL : HasBool P w K mg base cL true
  bG : HasBool P w K mg base cG true
  bS : HasBool P w K mg base cS false
  bN : HasBool P w K mg base cN false
  bA : HasBool P w K mg base cA true
  bT : HasBool P w K mg base cT false
  isS : PySem.W.kitOne K (.ref cS) (.ref CD) = some true
  isG : PySem.W.kitOne K (.ref cG) (.ref CD) = some false
  kT : ∀ H a dx fs, H a = some (.ins CK dx fs) → TyOf K H (.ref a) (.ref CK)
  kM : PySem.W.makesIn K CK = true
  kN : cG ≠ CK
  kF : PySem.W.notFirst K cG (.ref CK) = true
section
variable {C CP : Addr} {σ : L2.St} {H : Hp} {Q : VK} {E : XK} {i1 i2 i3 i4 i d : Nat} {v1 v2 v3 v4 v : V} {t1 t2 t3 t4 t : T} {wd nm : Str}
theorem mk4_c (h1 : σ[i1]? = some (some v1)) (h2 : σ[i2]? = some (some v2)) (h3 : σ[i3]? = some (some v3)) (h4 : σ[i4]? = some (some v4)) (r : Tr C H d v1 t1 ∧ Tr C H d v2 t2 ∧ Tr C H d v3 t3 ∧ Tr C H d v4 t4) (sm : Sml d t1 ∧ Sml d t2 ∧ Sml d t3 ∧ Sml d t4) (hd : d ≤ 8) (q : ∀ x H', Same H H' → H x = none → Pap4 C CP H' x (fix t1) (fix t2) (fix t3) (fix t4) → Q (.ref x) H') :
    tMake CP (sp4 C CP) [] E (tCons (tVar i1) (tCons (tVar i2) (tCons (tVar i3) (tCons (tVar i4) tNil)))) σ H Q := ⟨v1, h1, v2, h2, v3, h3, v4, h4, mk_4 r sm hd q⟩
theorem mk4k_c (h1 : σ[i1]? = some (some v1)) (h2 : σ[i2]? = some (some v2)) (h3 : σ[i3]? = some (some v3)) (h4 : σ[i4]? = some (some v4)) (r : Tr C H d v1 t1 ∧ Tr C H d v2 t2 ∧ Tr C H d v3 t3 ∧ Tr C H d v4 t4) (sm : Sml d t1 ∧ Sml d t2 ∧ Sml d t3 ∧ Sml d t4) (hd : d ≤ 8) (q : ∀ x H', Same H H' → H x = none → Pap4 C CP H' x (fix t1) (fix t2) (fix t3) (fix t4) → Q (.ref x) H') :
    tMakeK CP 0 4 (sp4 C CP) (fun vs zs => vs ++ [zs.getD 2 .non, zs.getD 3 .non, zs.getD 1 .non, zs.getD 0 .non]) E tNil (tCons (tVar i4) (tCons (tVar i3) (tCons (tVar i1) (tCons (tVar i2) tNil)))) σ H Q := ⟨v4, h4, v3, h3, v1, h1, v2, h2, rfl, rfl, mk_4 r sm hd q⟩
theorem mk1_c (h1 : σ[i]? = some (some v)) (r : Tr C H d v t) (sm : Sml d t) (hd : d ≤ 8) (q : ∀ x H', Same H H' → H x = none → Pap1 C CP H' x wd nm (fix t) → Q (.ref x) H') : tMake CP (sp1 C CP wd nm) [] E (tCons (tVar i) tNil) σ H Q := ⟨v, h1, mk_1 r sm hd q⟩
theorem mk1k_c (h1 : σ[i]? = some (some v)) (r : Tr C H d v t) (sm : Sml d t) (hd : d ≤ 8) (q : ∀ x H', Same H H' → H x = none → Pap1 C CP H' x wd nm (fix t) → Q (.ref x) H') : tMakeK CP 0 1 (sp1 C CP wd nm) (fun vs zs => vs ++ zs) E tNil (tCons (tVar i) tNil) σ H Q := ⟨v, h1, rfl, rfl, mk_1 r sm hd q⟩
end
theorem tup_fix {n : Nat} {ts : List T} (h : ∀ t ∈ ts, Sml n t) (l : ts.length ≤ 100) : (T.tup (fixL ts)).depth ≤ 2 * n + 1 ∧ Lsm (2 * n + 1) (.tup (fixL ts)) := by
  have each : ∀ g ∈ fixL ts, g.depth ≤ 2 * n ∧ Lsm (2 * n) g := fun g hg => by
    rw [fixL_map] at hg
    obtain ⟨u, hu, rfl⟩ := List.mem_map.mp hg
    obtain ⟨a, b, c⟩ := fix_ok (h u hu)
    have := Sml.depth (h u hu)
    exact ⟨by omega, Lsm.of b a⟩
  refine ⟨?_, by rw [fixL_len]; exact l, fun g hg => (each g hg).2⟩
  rw [T.depth]
  exact Nat.succ_le_succ (depthL_le fun g hg => (each g hg).1)
theorem Lsm.mono : ∀ {d d' : Nat} {t : T}, d ≤ d' → Lsm d t → Lsm d' t := by
  intro d
  induction d with
  | zero => intro d' t _ h; cases t <;> first | exact h.elim | (cases d' <;> exact h)
  | succ d ih =>
    intro d' t l h
    obtain ⟨e, rfl⟩ : ∃ e, d' = e + 1 := ⟨d' - 1, by omega⟩
    cases t with
    | tup ts => exact ⟨h.1, fun t ht => ih (by omega) (h.2 t ht)⟩
    | lst ts => exact h.elim
    | dct ts => exact h.elim
    | _ => exact h
theorem mk1l_c {C CP : Addr} {σ : L2.St} {H : Hp} {Q : VK} {E : XK} {i d : Nat} {v : V} {t : T} {wd nm : Str} (h1 : σ[i]? = some (some v)) (r : Tr C H d v t) (sm : Sml d t) (hd : d ≤ 7) (q : ∀ x H', Same H H' → Pap1 C CP H' x wd nm (.tup [fix t, .int 0]) → Q (.ref x) H') :
    tMake CP (sp1 C CP wd nm) [] E (tCons (tLst (tCons (tVar i) (tCons (tC (.int 0)) tNil))) tNil) σ H Q := by
  refine ⟨v, h1, (by show 2 ≤ sizeLine; decide +kernel), fun l hl => ?_⟩
  have s := upd_new (o := .lst [v, V.int 0]) hl
  have sm2 : Sml (d + 1) (.lst [t, .int 0]) := ⟨(show 2 ≤ 4 by decide), fun u hu => by
    rcases List.mem_cons.mp hu with rfl | hu
    · exact sm
    · exact List.mem_singleton.mp hu ▸ Sml.mono (d := 0) (Nat.zero_le _) (show Sm 200 0 by unfold Sm; decide +kernel)⟩
  have tr2 : Tr C (upd H l (.lst [v, V.int 0])) (d + 1) (.ref l) (.lst [t, .int 0]) := ⟨l, _, rfl, upd_same, .cons' (r.same s) (.cons' (Tr.mono (d := 0) (Nat.zero_le _) rfl) .nil')⟩
  refine mk_1 tr2 sm2 (by omega) fun x H' s' n' p' => q x H' (s.trans s') ?_
  have e : fix (.lst [t, .int 0]) = .tup [fix t, .int 0] := by rw [fix, fixL, fixL, fixL, fix]
  rw [e] at p'
  exact p'
theorem mkr1_c {C CP : Addr} {σ : L2.St} {H : Hp} {Q : VK} {E : XK} {i d : Nat} {v : V} {t : T} {wd : Str} (ne : CP ≠ C) (h1 : σ[i]? = some (some v)) (r : Tr C H d v t) (sm : Sml d t) (hd : d ≤ 8) (q : ∀ x H', Same H H' → PapAt C CP H' x wd (.tup [fix t]) → Q (.ref x) H') :
    StX.tMakeR CP (spStar C CP) E (tCons (tC (.str wd)) (tCons (tVar i) tNil)) σ H Q :=
  ⟨v, h1, mk_pap ne (.cons' r .nil') (show 1 ≤ 4 by decide) (one_sml sm) hd fun x H' s n p => q x H' s (by rw [← fix_one]; exact p)⟩
theorem mkk_c {CK : Addr} {σ : L2.St} {H : Hp} {Q : VK} {E : XK} (q : ∀ x dx fs H', Same H H' → H' x = some (.ins CK dx fs) → Q (.ref x) H') : StX.tMakeR CK (spKStar CK) E (tCons (tC (.str "kin")) (tCons (tC (.int 1)) tNil)) σ H Q := mk_keep q
theorem take_str {ws : List Str} {i : Nat} {w : Str} (h : ws[i]? = some w) : (ws.take i).map V.str ++ [V.str w] = (ws.take (i + 1)).map V.str := by
  obtain ⟨hi, e⟩ := List.getElem?_eq_some_iff.mp h
  rw [List.take_succ_eq_append_getElem hi, List.map_append, e]
  rfl
theorem dps_str {K : PySem.W.Frag} {H : Hp} : ∀ xs : List Str, DpAll K H (xs.map V.str) (xs.map PyData.str)
  | [] => .nil
  | x :: xs => .cons (.str x) (dps_str xs)
theorem dps_bl {K : PySem.W.Frag} {H : Hp} : ∀ xs : List Bool, DpAll K H (xs.map V.bl) (xs.map PyData.bool)
  | [] => .nil
  | x :: xs => .cons (.bl x) (dps_bl xs)
def words6 : List Str := ["least", "good", "stuck", "never", "parted", "together"]
def bools6 : List Bool := [true, true, false, false, true, false]
theorem words6_ok : SeqAt.shaped (.list (words6.map PyData.str)) = true ∧ PyData.eqv (.list (words6.map PyData.str)) (.list (words6.map PyData.str)) = true := by decide +kernel
theorem bools6_ok : SeqAt.shaped (.list (bools6.map PyData.bool)) = true ∧ PyData.eqv (.list (bools6.map PyData.bool)) (.list (bools6.map PyData.bool)) = true := by decide +kernel
theorem seq_par3 {i j l : Nat} {ta : TA} {u : TS} {D : Ends} {σ : L2.St} {H : Hp} (h : ta σ H fun vs H1 => ∃ a b c, vs = [a, b, c] ∧ u D (((σ.set i (some a)).set j (some b)).set l (some c)) H1) : tSeq (tPar3 i j l ta) u D σ H := by
  have e : tPar3 i j l ta { D with nx := u D } σ H = tSeq (tPar3 i j l ta) u D σ H := rfl
  rw [← e]
  exact h
abbrev NKin : List Str := ["_law_crate_here", "_law_one", "_law_two", "_law_three", "_law_four", "_law_least", "_law_named", "_law_good", "_law_stuck", "_law_never", "_law_parted", "_law_joined", "_law_told", "_law_due", "_law_value_here", "_law_paper_here"]
end K2

/-! law. -/
namespace K2
open PySem PySem.Spec PyProof.Rows L2 K1 LamX

theorem tc_c {v : V} {σ : L2.St} {H : Hp} {Q : VK} (h : Q v H) : tC v σ H Q := h
theorem tup_2 {ta tb : TE} {σ : L2.St} {H : Hp} {Q : VK} (h : ta σ H fun x H1 => tb σ H1 fun y H2 => 2 ≤ sizeLine ∧ ∀ p, H2 p = none → Q (.ref p) (upd H2 p (.tup [x, y]))) : tTup (tCons ta (tCons tb tNil)) σ H Q := h
theorem lst_1 {ta : TE} {σ : L2.St} {H : Hp} {Q : VK} (h : ta σ H fun x H1 => 1 ≤ sizeLine ∧ ∀ p, H1 p = none → Q (.ref p) (upd H1 p (.lst [x]))) : tLst (tCons ta tNil) σ H Q := h
theorem mkr_arg {C CP : Addr} {ta : TE} {σ : L2.St} {H : Hp} {Q : VK} {E : XK} {wd : Str} (h : ta σ H fun v H1 => ∀ x dx, H1 x = none → H1 dx = none → dx ≠ x → spStar C CP [V.ref x, .str wd, v] (upd (upd H1 dx (.own x)) x (.ins CP dx [])) (fun u H2 => u = .non ∧ Q (.ref x) H2) E) : StX.tMakeR CP (spStar C CP) E (tCons (tC (.str wd)) (tCons ta tNil)) σ H Q := h
theorem if_nt_or {r : R2} {ta tb : TE} {u : TT} {A B Cc : TS} {D : Ends} {σ : L2.St} {H : Hp} (h : ta σ H fun x H1 => tb σ H1 fun y H2 => r x y H2 fun z H3 => ∃ k, z = .bl k ∧ if (!k) = true then (fun (c : Bool) H4 => if c = true then A { D with nx := Cc D } σ H4 else B { D with nx := Cc D } σ H4) true H3 else u σ H3 fun c H4 => if c = true then A { D with nx := Cc D } σ H4 else B { D with nx := Cc D } σ H4) :
    tSeq (tIfS (tOr (tNot (tTest (tOp r ta tb))) u) A B) Cc D σ H := h
theorem if_nt {r : R2} {ta tb : TE} {A B Cc : TS} {D : Ends} {σ : L2.St} {H : Hp} (h : ta σ H fun x H1 => tb σ H1 fun y H2 => r x y H2 fun z H3 => ∃ k, z = .bl k ∧ if (!k) = true then A { D with nx := Cc D } σ H3 else B { D with nx := Cc D } σ H3) :
    tSeq (tIfS (tNot (tTest (tOp r ta tb))) A B) Cc D σ H := h
theorem ntst_op {r : R2} {ta tb : TE} {σ : L2.St} {H : Hp} {Q : Bool → Hp → Prop} (h : ta σ H fun x H1 => tb σ H1 fun y H2 => r x y H2 fun z H3 => ∃ k, z = .bl k ∧ Q (!k) H3) : tNot (tTest (tOp r ta tb)) σ H Q := h
section
variable {C CP : Addr} {σ : L2.St} {H : Hp} {Q : VK} {E : XK} {wd : Str}
theorem mkpa_c {v : V} {t : T} (ne : CP ≠ C) (r : Tr C H 0 v t) (sm : Sml 0 t) (q : ∀ x H', Same H H' → PapAt C CP H' x wd (.tup [fix t]) → Q (.ref x) H') : StX.tMakeR CP (spStar C CP) E (tCons (tC (.str wd)) (tCons (tC v) tNil)) σ H Q :=
  mk_pap ne (.cons' r .nil') (show 1 ≤ 4 by decide) (one_sml sm) (by decide) fun x H' s n p => q x H' s (by rw [← fix_one]; exact p)
def treeL : T := .lst [.int 0, .tup [.int 1]]
def treeR : T := .tup [.bl false, .lst [.rat (rT 1 1) (rB 1 1)]]
theorem sm_int {n : Int} (h : Sm 200 n) (d : Nat) : Sml d (.int n) := Sml.mono (d := 0) (Nat.zero_le _) h
theorem treeL_sml : Sml 2 treeL := ⟨(show 2 ≤ 4 by decide), fun u hu => by
  rcases List.mem_cons.mp hu with rfl | hu
  · exact sm_int (by unfold Sm; decide +kernel) _
  · exact List.mem_singleton.mp hu ▸ ⟨(show 1 ≤ 4 by decide), one_sml (sm_int (by unfold Sm; decide +kernel) _)⟩⟩
theorem treeR_sml : Sml 2 treeR := ⟨(show 2 ≤ 4 by decide), fun u hu => by
  rcases List.mem_cons.mp hu with rfl | hu
  · exact trivial
  · exact List.mem_singleton.mp hu ▸ ⟨(show 1 ≤ 4 by decide), one_sml (show Sm 100 (rT 1 1) ∧ Sm 100 (rB 1 1) ∧ 0 < rB 1 1 by unfold Sm; decide +kernel)⟩⟩
theorem mkpl_c (ne : CP ≠ C) (q : ∀ x H', Same H H' → PapAt C CP H' x wd (.tup [fix treeL]) → Q (.ref x) H') : StX.tMakeR CP (spStar C CP) E (tCons (tC (.str wd)) (tCons (tLst (tCons (tC (.int 0)) (tCons (tTup (tCons (tC (.int 1)) tNil)) tNil))) tNil)) σ H Q := by
  have line : (1000 : Nat) < sizeLine := by decide +kernel
  refine ⟨(by show 1 ≤ sizeLine; omega), fun t ht => ⟨(by show 2 ≤ sizeLine; omega), fun l hl => ?_⟩⟩
  have s1 := upd_new (o := .tup [V.int 1]) ht
  have s2 := upd_new (o := .lst [V.int 0, .ref t]) hl
  have tr : Tr C (upd (upd H t (.tup [V.int 1])) l (.lst [V.int 0, .ref t])) 2 (.ref l) treeL :=
    ⟨l, _, rfl, upd_same, .cons' (Tr.mono (d := 0) (Nat.zero_le _) rfl) (.cons' ⟨t, _, rfl, s2 _ _ upd_same, .cons' (Tr.mono (d := 0) (Nat.zero_le _) rfl) .nil'⟩ .nil')⟩
  exact mk_pap ne (.cons' tr .nil') (show 1 ≤ 4 by decide) (one_sml treeL_sml) (by decide) fun x H' s n p => q x H' ((s1.trans s2).trans s) (by rw [← fix_one]; exact p)
theorem mk1R {K : PySem.W.Frag} {CB : Addr} {E' : XK} {Q' : VK} (q : New C H 1 1 Q') : tMake C (spRI K C CB) [V.int 1] E' (tCons (tC (.int 1)) tNil) σ H Q' := mk_new (by decide) (Sm.one (by decide)) (Sm.one (by decide)) q
theorem mkpr_c {K : PySem.W.Frag} {CB : Addr} {E' : XK} (ne : CP ≠ C) (q : ∀ x H', Same H H' → PapAt C CP H' x wd (.tup [fix treeR]) → Q (.ref x) H') :
    StX.tMakeR CP (spStar C CP) E (tCons (tC (.str wd)) (tCons (tTup (tCons (tC (.bl false)) (tCons (tLst (tCons (tMake C (spRI K C CB) [V.int 1] E' (tCons (tC (.int 1)) tNil)) tNil)) tNil))) tNil)) σ H Q := by
  have line : (1000 : Nat) < sizeLine := by decide +kernel
  refine mkr_arg ?_
  refine tup_2 ?_
  refine tc_c ?_
  refine lst_1 ?_
  refine mk1R (K := K) (CB := CB) (E' := E') fun r H1 s0 nr rr => ?_
  refine ⟨(by show 1 ≤ sizeLine; omega), fun l hl => ⟨(by show 2 ≤ sizeLine; omega), fun t ht => ?_⟩⟩
  have s1 := upd_new (o := .lst [V.ref r]) hl
  have s2 := upd_new (o := .tup [V.bl false, .ref l]) ht
  have tr : Tr C (upd (upd H1 l (.lst [V.ref r])) t (.tup [V.bl false, .ref l])) 2 (.ref t) treeR :=
    ⟨t, _, rfl, upd_same, .cons' (Tr.mono (d := 0) (Nat.zero_le _) rfl) (.cons' ⟨l, _, rfl, s2 _ _ upd_same, .cons' ⟨r, rfl, (rr.same s1).same s2⟩ .nil'⟩ .nil')⟩
  exact mk_pap ne (.cons' tr .nil') (show 1 ≤ 4 by decide) (one_sml treeR_sml) (by decide) fun x H' s n p => q x H' (((s0.trans s1).trans s2).trans s) (by rw [← fix_one]; exact p)
end
theorem eqv_LR : eqv (.tup [fix treeL]) (.tup [fix treeR]) = true := by
  unfold treeL treeR
  simp only [fix, fixL]
  decide +kernel
theorem dep_LR : (T.tup [fix treeL]).depth ≤ 10 ∧ (T.tup [fix treeR]).depth ≤ 10 := by
  unfold treeL treeR
  simp only [fix, fixL]
  decide +kernel
def spLaw (K : PySem.W.Frag) : Sp := fun vs H Q _ => ∃ (a : Addr) (ns : List Int), vs = [.ref a] ∧ SqL K H a (ns.map V.int) ∧ ns.length ≤ 63 ∧ ∀ H', Q (.bl true) H'
abbrev NLaw : List Str := ["_law_script", "_law_crate_here", "_law_turn"]
section
variable {P : Program} {w : World} {K : PySem.W.Frag} {mg : Str → Option Value} {base : Heap} {f C CB CP : Addr} {fd : FuncData}
theorem scLaw : FnScope NLaw ["_law_script"] (defScope sLaw) := ⟨rfl, rfl, rfl, by decide +kernel, rfl, by decide +kernel, by decide +kernel⟩
theorem ok_law (G : Glob mg) (MR : MkR P w K mg base C CB) (HP : HasPap P w K mg base C CP "Paper") (AP : PapAll P w K mg base C CP) (HC : Fn0 P w K mg base 1 "_law_crate" ["_law_script"] (spPail K)) (H1 : Fn0 P w K mg base 19 "_law_fixed_right" ["_law_crate_here"] (spRight C 400))
    (H2 : Fn0 P w K mg base 19 "_law_papers_right" ["_law_crate_here"] (spRight C 400)) (H3 : Fn0 P w K mg base 19 "_law_kinds_right" ["_law_crate_here"] (spRight C 200)) (F : DefAt K "law" "law" sLaw f fd) : FnOk P w K mg base CX0 20 f fd ["_law_script"] (spLaw K) := by
  obtain ⟨fm, fdm, ds, M, GM, bM0, hv, bM⟩ := MR.m
  obtain ⟨fp, MP, FP⟩ := HP.m
  obtain ⟨fc, fdc, mC, kC, bC, GC⟩ := HC.h
  obtain ⟨f1, fd1, m1, k1, b1, G1⟩ := H1.h
  obtain ⟨f2, fd2, m2, k2, b2, G2⟩ := H2.h
  obtain ⟨f3, fd3, m3, k3, b3, G3⟩ := H3.h
  refine okN F scLaw (fun vs H Q E ⟨_, _, e, _⟩ => by rw [e]; rfl) (fun cdv A outer s H vs Q E hr ⟨sc, ns, e, hS, hl, q⟩ => ?_)
  subst e
  have r1 := hr.mono (show 1 ≤ 19 by decide)
  have r4 := hr.mono (show 4 ≤ 19 by decide)
  have r13 := hr.mono (show 12 + 1 ≤ 19 by decide)
  have r14 := hr.mono (show 14 ≤ 19 by decide)
  refine ⟨_, pss_cons (ps_set (i := 1) scLaw.nd rfl (Or.inl rfl) (pe_call GC r1 rfl mC kC bC .nil pass0 (pa_cons (pv 0) pa_nil)))
    (pss_cons (ps_if (PW.pt (pw_or (pt_not (pt_cmpR (op_pap (C := C) r14) (StX.pe_makeR MP FP r13 rfl HP.g pass0 (pa_cons pe_str (pa_cons pe_int pa_nil))) (StX.pe_makeR MP FP r13 rfl HP.g pass0 (pa_cons pe_str (pa_cons pe_bl pa_nil))) (nomark _)))
        (pw_or1 (pt_cmpR (op_pap (C := C) r14) (StX.pe_makeR MP FP r13 rfl HP.g pass0 (pa_cons pe_str (pa_cons pe_int pa_nil))) (StX.pe_makeR MP FP r13 rfl HP.g pass0 (pa_cons pe_str (pa_cons pe_str pa_nil))) (nomark _))))) (pss_one (ps_ret pe_bl)) pss_nil)
    (pss_cons (ps_if (pt_not (pt_cmpR (op_pap (C := C) r14) (StX.pe_makeR MP FP r13 rfl HP.g pass0 (pa_cons pe_str (pa_cons (pe_lst (pa_cons pe_int (pa_cons (pe_tup (pa_cons pe_int pa_nil)) pa_nil))) pa_nil)))
        (StX.pe_makeR MP FP r13 rfl HP.g pass0 (pa_cons pe_str (pa_cons (pe_tup (pa_cons pe_bl (pa_cons (pe_lst (pa_cons (pe_make M GM r4 rfl MR.g bM hv passL (pa_cons pe_int pa_nil)) pa_nil)) pa_nil))) pa_nil))) (nomark _))) (pss_one (ps_ret pe_bl)) pss_nil)
    (pss_cons (ps_for PassesOwn.never rfl (pi_range1 (by rfl) G.range (pa_cons pe_int pa_nil)) (pg_name (i := 2) scLaw.nd rfl (Or.inl rfl))
      (pss_one (ps_if (PW.pt (pw_or (pt_not (pt_val (pe_call G1 hr rfl m1 k1 b1 .nil pass0 (pa_cons (pv 1) pa_nil)))) (pw_or (pt_not (pt_val (pe_call G2 hr rfl m2 k2 b2 .nil pass0 (pa_cons (pv 1) pa_nil))))
        (pw_or1 (pt_not (pt_val (pe_call G3 hr rfl m3 k3 b3 .nil pass0 (pa_cons (pv 1) pa_nil)))))))) (pss_one (ps_ret pe_bl)) pss_nil)))
    (pss_one (ps_ret pe_bl))))), ?_⟩
  have d1 : ∀ v : V, ∀ t : T, fix t = t → t.depth = 0 → (T.tup [fix t]).depth ≤ 10 := fun v t e h => by rw [e, T.depth, depthL, depthL]; omega
  have sN : ∀ n : Int, n = 1 → Sml 0 (.int n) := fun n e => by subst e; show Sm 200 1; unfold Sm; decide +kernel
  refine ⟨_, rfl, sc, ns, rfl, hS, hl, fun p Hc z s1 np hp pl => ?_⟩
  have tub : TubAt Hc p 0 := ⟨z, 0, z, hp, pl⟩
  dsimp only [gName]
  refine if_nt_or ?_
  refine mkpa_c (t := .int 1) HP.ne rfl (sN 1 rfl) fun x1 Ha sa pa => ?_
  refine mkpa_c (t := .bl true) HP.ne rfl trivial fun x2 Hb sb pb => ?_
  refine pap_same AP (pa.same sb) pb (by decide +kernel) (by decide +kernel) fun Hd sd => ⟨true, by decide +kernel, iteF ?_⟩
  refine tst_op ?_
  refine mkpa_c (t := .int 1) HP.ne rfl (sN 1 rfl) fun x3 He se pe => ?_
  refine mkpa_c (t := .str "1") HP.ne rfl (show (reprText "1").length ≤ 100 by decide +kernel) fun x4 Hf sf pf => ?_
  refine pap_same AP (pe.same sf) pf (by decide +kernel) (by decide +kernel) fun Hg sg => ⟨false, by decide +kernel, iteF ?_⟩
  dsimp only [tNext]
  refine if_nt ?_
  refine mkpl_c HP.ne fun x5 Hh sh ph => ?_
  refine mkpr_c HP.ne fun x6 Hi si pi => ?_
  refine pap_same AP (ph.same si) pi dep_LR.1 dep_LR.2 fun Hj sj => ⟨true, by rw [eqv_LR, decide_eq_true rfl]; rfl, iteF ?_⟩
  have tubJ : TubAt Hj p 0 := ((((((((tub.same sa).same sb).same sd).same se).same sf).same sg).same sh).same si).same sj
  refine ⟨5, rfl, by decide, by decide, ?_⟩
  refine for_range (lo := 0) (n := 5) (fun i σ H' => ∃ o2, σ = [some (.ref sc), some (.ref p), o2] ∧ TubAt H' p (1000 * i)) ⟨_, rfl, tubJ⟩ ?_ ?_
  · rintro i σ H' hi ⟨o2, rfl, t0⟩
    refine ⟨_, rfl, p, _, rfl, t0, by omega, fun Hk tk _ => ⟨true, rfl, iteF ?_⟩⟩
    refine ⟨_, rfl, p, _, rfl, tk, by omega, fun Hl tl _ => ⟨true, rfl, iteF ?_⟩⟩
    refine ⟨_, rfl, p, _, rfl, tl, by omega, fun Hm tm _ => ⟨true, rfl, iteF ?_⟩⟩
    exact ⟨_, rfl, tm.mono (by omega) (by omega)⟩
  · rintro σ H' _
    exact q H'
end
end K2

/-! _law_kinds_right, read. -/
namespace K2
open PySem PySem.Spec PyProof.Rows L2 K1 LamX

section
variable {P : Program} {w : World} {K : PySem.W.Frag} {mg : Str → Option Value} {base : Heap} {f C CB CP CD CK cL cG cS cN cA cT : Addr} {fd : FuncData}
theorem scKin : FnScope NKin ["_law_crate_here"] (defScope sKindsRight) := ⟨rfl, rfl, rfl, by decide +kernel, rfl, by decide +kernel, by decide +kernel⟩
theorem ok_kinds (G : Glob mg) (R : RatF K C) (FV : Fn0 P w K mg base 7 "_law_value" ["_law_crate_here", "_law_depth"] (spVal C 2)) (FF : Fn0 P w K mg base 11 "_law_fixed" ["_law_value_here"] (spFix C 9)) (FS : Fn0 P w K mg base 17 "_law_same" ["_law_told", "_law_due"] (spSame C 10))
    (HP : HasPap P w K mg base C CP "Paper") (gD : mg "Denial" = some (.ref CD)) (HL : HasFour P w K mg base C cL) (HG : HasOne P w K mg base C cG "Good" "good" "row") (HS : HasOne P w K mg base C cS "Stuck" "stuck" "sets") (HN : HasOne P w K mg base C cN "Never" "never" "sets")
    (HA : HasOne P w K mg base C cA "Parted" "parted" "done") (HT : HasOne P w K mg base C cT "Together" "together" "lines") (HK : HasKeep P w K mg base CK) (KF : KinF P w K mg base C CP CD CK cL cG cS cN cA cT)
    (F : DefAt K "_law_kinds_right" "_law_kinds_right" sKindsRight f fd) : FnOk P w K mg base CX0 19 f fd ["_law_crate_here"] (spRight C 200) := by
  obtain ⟨fv, fdv, mV, kV', bV, GV⟩ := FV.h
  obtain ⟨ff, fdf, mF, kF, bF, GF⟩ := FF.h
  obtain ⟨fa, fda, mA, kA, bA, GA⟩ := FS.h
  obtain ⟨fp, MP, FP⟩ := HP.m
  obtain ⟨fl, fdl, ML, FL, BL, gl, KL⟩ := HL.m
  obtain ⟨fg, fdg, MG, FG, BG, KG⟩ := HG.m
  obtain ⟨fs, fds, MS, FS', BS, KS⟩ := HS.m
  obtain ⟨fn, fdn, MN, FN, BN, KN⟩ := HN.m
  obtain ⟨fr, fdr, MA, FA, BA, KA⟩ := HA.m
  obtain ⟨ft, fdt, MT, FT, BT, KT⟩ := HT.m
  obtain ⟨fk, MK, FK⟩ := HK.m
  refine okN F scKin (fun vs H Q E ⟨_, _, e, _⟩ => by rw [e]; rfl) (fun cdv A outer s H vs Q E hr ⟨p, n, e, tub, hn, q⟩ => ?_)
  subst e
  have r7 := hr.mono (show 7 ≤ 18 by decide)
  have r11 := hr.mono (show 11 ≤ 18 by decide)
  have r14 := hr.mono (show 14 ≤ 18 by decide)
  have r17 := hr.mono (show 17 ≤ 18 by decide)
  have r3 := hr.mono (show 3 ≤ 18 by decide)
  have r13 := hr.mono (show 12 + 1 ≤ 18 by decide)
  have hu : (cxOf CX0 P w K mg base NKin "_law_kinds_right" (defScope sKindsRight) f cdv A outer s H E).nox.A.units + 64 < cLine := hr.units
  refine ⟨_, pss_cons (ps_par (i := 1) (j := 2) (by rfl) scKin.nd rfl rfl (by decide) rfl rfl (pa_cons (pe_call GV r7 rfl mV kV' bV .nil pass0 (pa_cons (pv 0) (pa_cons pe_int pa_nil))) (pa_cons (pe_call GV r7 rfl mV kV' bV .nil pass0 (pa_cons (pv 0) (pa_cons pe_int pa_nil))) pa_nil)) (by rfl))
    (pss_cons (ps_par (i := 3) (j := 4) (by rfl) scKin.nd rfl rfl (by decide) rfl rfl (pa_cons (pe_call GV r7 rfl mV kV' bV .nil pass0 (pa_cons (pv 0) (pa_cons pe_int pa_nil))) (pa_cons (pe_call GV r7 rfl mV kV' bV .nil pass0 (pa_cons (pv 0) (pa_cons pe_int pa_nil))) pa_nil)) (by rfl))
    (pss_cons (ps_par (i := 5) (j := 6) (by rfl) scKin.nd rfl rfl (by decide) rfl rfl (pa_cons (pe_make ML FL r13 rfl HL.g BL .nil pass0 (pa_cons (pv 1) (pa_cons (pv 2) (pa_cons (pv 3) (pa_cons (pv 4) pa_nil)))))
        (pa_cons (pe_makeK0 ML FL r13 rfl HL.g KL pass0 (pk_cons (pv 4) (pk_cons (pv 3) (pk_cons (pv 1) (pk_cons (pv 2) pk_nil))))) pa_nil)) (by rfl))
    (pss_cons (ps_par3 (i := 7) (j := 8) (l := 9) (by rfl) scKin.nd rfl rfl rfl (by decide) (by decide) (by decide) rfl rfl rfl (pa_cons (pe_make MG FG r13 rfl HG.g BG .nil pass0 (pa_cons (pv 1) pa_nil)) (pa_cons (pe_makeK0 MS FS' r13 rfl HS.g KS pass0 (pk_cons (pv 2) pk_nil)) (pa_cons (pe_make MN FN r13 rfl HN.g BN .nil pass0 (pa_cons (pv 3) pa_nil)) pa_nil))) (by rfl))
    (pss_cons (ps_par (i := 10) (j := 11) (by rfl) scKin.nd rfl rfl (by decide) rfl rfl (pa_cons (pe_makeK0 MA FA r13 rfl HA.g KA pass0 (pk_cons (pv 1) pk_nil)) (pa_cons (pe_makeK0 MT FT r13 rfl HT.g KT pass0 (pk_cons (pv 2) pk_nil)) pa_nil)) (by rfl))
    (pss_cons (ps_set (i := 12) scKin.nd rfl (Or.inl rfl) (pe_lst (pa_cons (pe_fld (pv 5) rfl) (pa_cons (pe_fld (pv 5) rfl) (pa_cons (pe_fld (pv 5) rfl) (pa_cons (pe_fld (pv 5) rfl) (pa_cons (pe_fld (pv 7) rfl) (pa_cons (pe_fld (pv 8) rfl) (pa_cons (pe_fld (pv 9) rfl) (pa_cons (pe_fld (pv 10) rfl) (pa_cons (pe_fld (pv 11) rfl) pa_nil)))))))))))
    (pss_cons (ps_setLc (i := 13) (own := [("_law_value_here", 14)]) (g := gName 14) (tt := tYes) rfl scKin.nd rfl rfl rfl (pi_list (pe_lst (pa_cons (pv 1) (pa_cons (pv 2) (pa_cons (pv 3) (pa_cons (pv 4) (pa_cons (pv 1) (pa_cons (pv 2) (pa_cons (pv 3) (pa_cons (pv 1) (pa_cons (pv 2) pa_nil))))))))))) (blkOk_by (N := NKin) (sc := defScope sKindsRight) (by decide +kernel))
        (fun _ _ _ _ _ => pg_name (i := 14) scKin.nd rfl (Or.inl rfl)) (fun _ _ _ _ _ => pts_nil) (fun _ _ _ _ _ => pe_call GF r11 rfl mF kF bF .nil pass0 (pa_cons (pv 14) pa_nil)))
    (pss_cons (ps_if (PW.pt (pw_or (pt_not (pt_val (pe_call GA r17 rfl mA kA bA .nil pass0 (pa_cons (pe_tupleOf (by rfl) G.tup (pv 12)) (pa_cons (pe_tupleOf (by rfl) G.tup (pv 13)) pa_nil))))) (pw_or (pt_not (pt_cmpR (op_pap (C := C) r14) (pv 5) (pv 6) (nomark _))) (pw_or (pt_cmpR (op_pap (C := C) r14) (pv 7) (pv 10) (nomark _))
        (pw_or1 (pt_cmpR (op_pap (C := C) r14) (pv 7) (pe_make MG FG r13 rfl HG.g BG .nil pass0 (pa_cons (pe_lst (pa_cons (pv 1) (pa_cons pe_int pa_nil))) pa_nil)) (nomark _))))))) (pss_one (ps_ret pe_bl)) pss_nil)
    (pss_cons (ps_if (pt_cmpR (op_neD hu) (pe_lc (own := [("_law_paper_here", 15)]) (g := gName 15) (tt := tYes) rfl scKin.nd (pi_list (pe_lst (pa_cons (pv 5) (pa_cons (pv 7) (pa_cons (pv 8) (pa_cons (pv 9) (pa_cons (pv 10) (pa_cons (pv 11) pa_nil)))))))) (blkOk_by (N := NKin) (sc := defScope sKindsRight) (by decide +kernel))
        (fun _ _ _ _ _ => pg_name (i := 15) scKin.nd rfl (Or.inl rfl)) (fun _ _ _ _ _ => pts_nil) (fun _ _ _ _ _ => show PE _ _ (tFld K (tVar 15) "word") from pe_fld (pv 15) rfl)) (pe_lst (pa_cons pe_str (pa_cons pe_str (pa_cons pe_str (pa_cons pe_str (pa_cons pe_str (pa_cons pe_str pa_nil))))))) (nomark _)) (pss_one (ps_ret pe_bl)) pss_nil)
    (pss_cons (ps_if (pt_cmpR (op_neD hu) (pe_lc (own := [("_law_paper_here", 15)]) (g := gName 15) (tt := tYes) rfl scKin.nd (pi_list (pe_lst (pa_cons (pv 5) (pa_cons (pv 7) (pa_cons (pv 8) (pa_cons (pv 9) (pa_cons (pv 10) (pa_cons (pv 11) pa_nil)))))))) (blkOk_by (N := NKin) (sc := defScope sKindsRight) (by decide +kernel))
        (fun _ _ _ _ _ => pg_name (i := 15) scKin.nd rfl (Or.inl rfl)) (fun _ _ _ _ _ => pts_nil) (fun _ _ _ _ _ => show PE _ _ (tCB (rBoolAny P w K mg base) (tCons (tVar 15) tNil)) from pe_callTy (T := "bool") (call_boolAny r3) (by rfl) G.bool (by decide +kernel) (pa_cons (pv 15) pa_nil))) (pe_lst (pa_cons pe_bl (pa_cons pe_bl (pa_cons pe_bl (pa_cons pe_bl (pa_cons pe_bl (pa_cons pe_bl pa_nil))))))) (nomark _)) (pss_one (ps_ret pe_bl)) pss_nil)
    (pss_cons (ps_if (PW.pt (pw_or (pt_not (pt_val (pe_callB call_isi (by rfl) G.isi (by decide +kernel) (pa_cons (pv 8) (pa_cons (pe_glob (v := .ref CD) rfl gD rfl) pa_nil))))) (pw_or (pt_val (pe_callB call_isi (by rfl) G.isi (by decide +kernel) (pa_cons (pv 7) (pa_cons (pe_glob (v := .ref CD) rfl gD rfl) pa_nil))))
        (pw_or (pt_cmpR (op_pap (C := C) r14) (StX.pe_makeR MP FP r13 rfl HP.g pass0 (pa_cons pe_str (pa_cons (pv 1) pa_nil))) (pv 7) (nomark _)) (pw_or1 (pt_cmpR (op_pap (C := C) r14) (pv 7) (StX.pe_makeR MK FK r13 rfl HK.g pass0 (pa_cons pe_str (pa_cons pe_int pa_nil))) (nomark _))))))) (pss_one (ps_ret pe_bl)) pss_nil)
    (pss_one (ps_ret (pe_call GA r17 rfl mA kA bA .nil pass0 (pa_cons (pe_fld (pv 5) rfl) (pa_cons (pe_tupleOf (by rfl) G.tup (pe_lc (own := [("_law_value_here", 14)]) (g := gName 14) (tt := tYes) rfl scKin.nd (pi_list (pe_lst (pa_cons (pv 1) (pa_cons (pv 2) (pa_cons (pv 3) (pa_cons (pv 4) pa_nil)))))) (blkOk_by (N := NKin) (sc := defScope sKindsRight) (by decide +kernel))
        (fun _ _ _ _ _ => pg_name (i := 14) scKin.nd rfl (Or.inl rfl)) (fun _ _ _ _ _ => pts_nil) (fun _ _ _ _ _ => pe_call GF r11 rfl mF kF bF .nil pass0 (pa_cons (pv 14) pa_nil)))) pa_nil))))))))))))))), ?_⟩
  have cst : cost 2 = 39 := by decide
  have line : (1000 : Nat) < sizeLine := by decide +kernel
  refine seq_par ?_
  refine val_k (d := 2) rfl tub (by omega) fun v1 t1 H1 tb1 k1 tr1 sm1 => ?_
  refine val_k (d := 2) rfl tb1 (by omega) fun v2 t2 H2 tb2 k2 tr2 sm2 => ?_
  refine ⟨_, _, rfl, ?_⟩
  refine seq_par ?_
  refine val_k (d := 2) rfl tb2 (by omega) fun v3 t3 H3 tb3 k3 tr3 sm3 => ?_
  refine val_k (d := 2) rfl tb3 (by omega) fun v4 t4 H4 tb4 k4 tr4 sm4 => ?_
  refine ⟨_, _, rfl, ?_⟩
  have q1 : Tr C H4 2 v1 t1 := tr1.same (neu_later ((k2.trans k3).trans k4) tub.some)
  have q2 : Tr C H4 2 v2 t2 := tr2.same (neu_later (k3.trans k4) tb1.some)
  have q3 : Tr C H4 2 v3 t3 := tr3.same (neu_later k4 tb2.some)
  have q4 : Tr C H4 2 v4 t4 := tr4.same neu_same
  have k04 : Keep p H H4 := ((k1.trans k2).trans k3).trans k4
  have tF : TubAt H4 p (n + 200) := tb4.mono (by rw [cst]; omega) hn
  clear tr1 tr2 tr3 tr4 k1 k2 k3 k4 tb1 tb2 tb3 tb4
  refine seq_par ?_
  refine cons_step ?_
  refine mk4_c (i1 := 1) (i2 := 2) (i3 := 3) (i4 := 4) rfl rfl rfl rfl ⟨q1, q2, q3, q4⟩ ⟨sm1, sm2, sm3, sm4⟩ (by decide) fun x1 H5 s5 n5 p5 => ?_
  refine cons_step ?_
  refine mk4k_c (i1 := 1) (i2 := 2) (i3 := 3) (i4 := 4) rfl rfl rfl rfl ⟨q1.same s5, q2.same s5, q3.same s5, q4.same s5⟩ ⟨sm1, sm2, sm3, sm4⟩ (by decide) fun x2 H6 s6 n6 p6 => ?_
  refine ⟨_, _, rfl, ?_⟩
  have s46 := s5.trans s6
  refine seq_par3 ?_
  refine cons_step ?_
  refine mk1_c (i := 1) rfl (q1.same s46) sm1 (by decide) fun x3 H7 s7 n7 p7 => ?_
  have s47 := s46.trans s7
  refine cons_step ?_
  refine mk1k_c (i := 2) rfl (q2.same s47) sm2 (by decide) fun x4 H8 s8 n8 p8 => ?_
  have s48 := s47.trans s8
  refine cons_step ?_
  refine mk1_c (i := 3) rfl (q3.same s48) sm3 (by decide) fun x5 H9 s9 n9 p9 => ?_
  have s49 := s48.trans s9
  refine ⟨_, _, _, rfl, ?_⟩
  refine seq_par ?_
  refine cons_step ?_
  refine mk1k_c (i := 1) rfl (q1.same s49) sm1 (by decide) fun x6 Ha sA nA pA => ?_
  have s4A := s49.trans sA
  refine cons_step ?_
  refine mk1k_c (i := 2) rfl (q2.same s4A) sm2 (by decide) fun x7 Hb sB nB pB => ?_
  refine ⟨_, _, rfl, ?_⟩
  have s4B := s4A.trans sB
  -- the papers, now
  have p5 := p5.same (((((s6.trans s7).trans s8).trans s9).trans sA).trans sB)
  have p6 := p6.same ((((s7.trans s8).trans s9).trans sA).trans sB)
  have p7 := p7.same (((s8.trans s9).trans sA).trans sB)
  have p8 := p8.same ((s9.trans sA).trans sB)
  have p9 := p9.same (sA.trans sB)
  have pA := pA.same sB
  replace q1 := q1.same s4B
  replace q2 := q2.same s4B
  replace q3 := q3.same s4B
  replace q4 := q4.same s4B
  replace k04 : Keep p H Hb := k04.trans (Same.keep s4B)
  replace tF := tF.same s4B
  clear s4B s4A s49 s48 s47 s46 s5 s6 s7 s8 s9 sA sB n5 n6 n7 n8 n9 nA nB
  rw [show (((((((((((start NKin [V.ref p]).set 1 (some v1)).set 2 (some v2)).set 3 (some v3)).set 4 (some v4)).set 5 (some (V.ref x1))).set 6 (some (V.ref x2))).set 7 (some (V.ref x3))).set 8 (some (V.ref x4))).set 9 (some (V.ref x5))).set 10 (some (V.ref x6))).set 11 (some (V.ref x7)) = [some (V.ref p), some v1, some v2, some v3, some v4, some (V.ref x1), some (V.ref x2), some (V.ref x3), some (V.ref x4), some (V.ref x5), some (V.ref x6), some (V.ref x7), none, none, none, none] from rfl]
  obtain ⟨f1, g1, d1⟩ := fix_ok sm1
  obtain ⟨f2, g2, d2⟩ := fix_ok sm2
  obtain ⟨f3, g3, d3⟩ := fix_ok sm3
  obtain ⟨f4, g4, d4⟩ := fix_ok sm4
  have e1 := Sml.depth sm1
  have e2 := Sml.depth sm2
  have e3 := Sml.depth sm3
  have e4 := Sml.depth sm4
  obtain ⟨dx1, fs1, w1, a1, a2, a3, a4, i1, i2, i3, ⟨l1, l2, l3, l4⟩, i4, ⟨b1, b2, b3, b4⟩, fx4'⟩ := id p5
  obtain ⟨dx3, fs3, w3, a5, j1, j2, j3, j4, j5, j6, j7⟩ := id p7
  obtain ⟨dx4, fs4, w4, a6, m1, m2, m3, m4, m5, m6, m7⟩ := id p8
  obtain ⟨dx5, fs5, w5, a7, o1, o2, o3, o4, o5, o6, o7⟩ := id p9
  obtain ⟨dx6, fs6, w6, a8, c1, c2, c3, c4, c5, c6, c7⟩ := id pA
  obtain ⟨dx7, fs7, w7, a9, z1, z2, z3, z4, z5, z6, z7⟩ := id pB
  refine ⟨_, rfl, x1, cL, dx1, fs1, a1, rfl, i1, KF.aL.c.cl, HL.n1, l1, _, rfl, x1, cL, dx1, fs1, a2, rfl, i1, KF.aL.c.cl, HL.n2, l2, _, rfl, x1, cL, dx1, fs1, a3, rfl, i1, KF.aL.c.cl, HL.n3, l3, _, rfl, x1, cL, dx1, fs1, a4, rfl, i1, KF.aL.c.cl, HL.n4, l4, ?_⟩
  refine ⟨_, rfl, x3, cG, dx3, fs3, a5, rfl, j1, KF.aG.c.cl, HG.na, j4, _, rfl, x4, cS, dx4, fs4, a6, rfl, m1, KF.aS.c.cl, HS.na, m4, _, rfl, x5, cN, dx5, fs5, a7, rfl, o1, KF.aN.c.cl, HN.na, o4, _, rfl, x6, cA, dx6, fs6, a8, rfl, c1, KF.aA.c.cl, HA.na, c4, _, rfl, x7, cT, dx7, fs7, a9, rfl, z1, KF.aT.c.cl, HT.na, z4, ?_⟩
  refine ⟨(by show 9 ≤ sizeLine; omega), fun lt nlt => ?_⟩
  have sC := upd_new (o := .lst [a1, a2, a3, a4, a5, a6, a7, a8, a9]) nlt
  have rowT : Row C Hb [a1, a2, a3, a4, a5, a6, a7, a8, a9] [fix t1, fix t2, fix t3, fix t4, fix t1, fix t2, fix t3, fix t1, fix t2] :=
    .cons' b1 (.cons' b2 (.cons' b3 (.cons' b4 (.cons' j6 (.cons' m6 (.cons' o6 (.cons' c6 (.one z6))))))))
  have hlt : (upd Hb lt (.lst [a1, a2, a3, a4, a5, a6, a7, a8, a9])) lt = some (.lst [a1, a2, a3, a4, a5, a6, a7, a8, a9]) := upd_same
  revert sC hlt
  generalize upd Hb lt (.lst [a1, a2, a3, a4, a5, a6, a7, a8, a9]) = Hc
  intro sC hlt
  refine ⟨_, rfl, _, rfl, _, rfl, _, rfl, _, rfl, _, rfl, _, rfl, _, rfl, _, rfl, (by show 9 ≤ sizeLine; omega), fun ld nld => ⟨ld, rfl, ⟨_, SqL.of upd_same⟩, fun D hD => ?_⟩⟩
  have sD := upd_new (o := .lst [v1, v2, v3, v4, v1, v2, v3, v1, v2]) nld
  have hld : (upd Hc ld (.lst [v1, v2, v3, v4, v1, v2, v3, v1, v2])) ld = some (.lst [v1, v2, v3, v4, v1, v2, v3, v1, v2]) := upd_same
  revert sD hD hld
  generalize upd Hc ld (.lst [v1, v2, v3, v4, v1, v2, v3, v1, v2]) = Hd
  intro hD sD hld
  have sbd := sC.trans sD
  have al9 : AllI (Tr C Hb 2) [v1, v2, v3, v4, v1, v2, v3, v1, v2] [t1, t2, t3, t4, t1, t2, t3, t1, t2] :=
    .cons' q1 (.cons' q2 (.cons' q3 (.cons' q4 (.cons' q1 (.cons' q2 (.cons' q3 (.cons' q1 (.cons' q2 .nil'))))))))
  have sm9 : ∀ t ∈ [t1, t2, t3, t4, t1, t2, t3, t1, t2], Sml 2 t := fun t ht => by
    simp only [List.mem_cons, List.not_mem_nil, or_false] at ht
    rcases ht with rfl | rfl | rfl | rfl | rfl | rfl | rfl | rfl | rfl <;> assumption
  have rowT : Row C Hb [a1, a2, a3, a4, a5, a6, a7, a8, a9] (fixL [t1, t2, t3, t4, t1, t2, t3, t1, t2]) := by
    rw [fixL_map]; exact rowT
  obtain ⟨dep9, lsm9⟩ := tup_fix sm9 (by show 9 ≤ 100; decide)
  have l9 : (fixL [t1, t2, t3, t4, t1, t2, t3, t1, t2]).length = 9 := by rw [fixL_len]; rfl
  have fx9 := fixL_fx sm9
  have ge9 : ∀ {i : Nat} {t : T}, [t1, t2, t3, t4, t1, t2, t3, t1, t2][i]? = some t → (fixL [t1, t2, t3, t4, t1, t2, t3, t1, t2])[i]? = some (fix t) := fixL_get
  generalize hg9 : fixL [t1, t2, t3, t4, t1, t2, t3, t1, t2] = gs9 at rowT dep9 lsm9 l9 fx9 ge9
  refine lc_list (K := K) (a := ld) (xs := [v1, v2, v3, v4, v1, v2, v3, v1, v2]) (fun i H5 => Same Hd H5 ∧ Done C H5 D gs9 i) ⟨upd_new hD, .zero⟩ (fun i H5 _ z => SqL.of (z.1 _ _ hld)) ?_ ?_
  · rintro i x H5 hx ⟨s5, dn⟩
    obtain ⟨t, et, rt⟩ := al9.to hx
    refine ⟨rfl, yes_of ⟨x, rfl, fix9 (E := E0) (rt.same (sbd.trans s5)) (sm9 t (List.mem_of_getElem? et)) (by decide) fun v' H6 s6 r6 => ?_⟩⟩
    obtain ⟨acc, y1, y2, y3⟩ := dn.step fx9 (by omega) (ge9 et) s6 r6
    exact ⟨acc, y1, y2, fun c o z => by rw [upd_ne (ne_of_none z hD)]; exact s6 _ _ (s5 _ _ z), y3⟩
  rintro H5 ⟨s5, dn⟩
  obtain ⟨us, hus, rowD⟩ : ∃ us, H5 D = some (.lst us) ∧ Row C H5 us gs9 := let ⟨us, y1, y2, y3⟩ := dn; ⟨us, y1, by rw [y2, l9]; rfl, y3⟩
  have sb5 := sbd.trans s5
  refine ⟨_, rfl, .inl ⟨lt, _, rfl, SqL.of ((sD.trans s5) _ _ hlt), fun p1 np1 => ?_⟩⟩
  have s6 := upd_new (o := .tup [a1, a2, a3, a4, a5, a6, a7, a8, a9]) np1
  have tT := (rowT.same sb5).tup np1
  refine ⟨_, rfl, .inl ⟨D, us, rfl, SqL.of (s6 _ _ hus), fun p2 np2 => ?_⟩⟩
  have s7 := upd_new (o := .tup us) np2
  have tD := (rowD.same s6).tup np2
  refine ⟨.ref p1, .ref p2, _, rfl, (tT.same s7).mono (Nat.le_trans dep9 (by decide)), tD.mono (Nat.le_trans dep9 (by decide)), lsm9.mono (by decide), fun He sE => ⟨true, rfl, iteF ?_⟩⟩
  have sbe := ((sb5.trans s6).trans s7).trans sE
  clear tT tD rowT rowD dn hus hld hD
  have dL : (T.tup [fix t1, fix t2, fix t3, fix t4]).depth ≤ 10 := by
    rw [T.depth, depthL, depthL, depthL, depthL, depthL]
    omega
  have dO : ∀ t : T, (fix t).depth ≤ 4 → (T.tup [fix t]).depth ≤ 10 := fun t h => by
    rw [T.depth, depthL, depthL]
    omega
  have y1 : (fix t1).depth ≤ 4 := by omega
  have y2 : (fix t2).depth ≤ 4 := by omega
  have y3 : (fix t3).depth ≤ 4 := by omega
  refine ⟨_, rfl, _, rfl, pap_same KF.aL (p5.pap.same sbe) (p6.pap.same sbe) dL dL fun Hf sF => ⟨true, by rw [eqv_refl (Nat.le_refl _) fx4', decide_eq_true rfl]; rfl, iteF ?_⟩⟩
  have sbf := sbe.trans sF
  refine ⟨_, rfl, _, rfl, pap_cls KF.aG KF.aA KF.cGA (p7.pap.same sbf) (pA.pap.same sbf) (dO _ y1) (dO _ y1) ⟨false, rfl, iteF ?_⟩⟩
  refine tst_op ?_
  refine ⟨_, rfl, ?_⟩
  refine mk1l_c (i := 1) rfl (q1.same sbf) sm1 (by decide) fun xg Hg sG pg => ?_
  have sbg := sbf.trans sG
  refine pap_same KF.aG (p7.pap.same sbg) pg.pap (dO _ y1) (by rw [T.depth, depthL, depthL, T.depth, depthL, depthL, depthL]; have : (T.int 0).depth = 0 := rfl; omega) fun Hh sH => ⟨false, by rw [eqv_in f1, Bool.and_false], iteF ?_⟩
  have sbh := sbg.trans sH
  clear sG sH sF sE s7 s6
  -- the words
  refine ⟨_, rfl, _, rfl, _, rfl, _, rfl, _, rfl, _, rfl, (by show 6 ≤ sizeLine; omega), fun l6 n6 => ⟨l6, rfl, ⟨_, SqL.of upd_same⟩, fun D6 hD6 => ?_⟩⟩
  have s6 := upd_new (o := .lst [V.ref x1, .ref x3, .ref x4, .ref x5, .ref x6, .ref x7]) n6
  have six : ∀ (i : Nat) (v : V), [V.ref x1, .ref x3, .ref x4, .ref x5, .ref x6, .ref x7][i]? = some v → ∃ a cP wd t b, v = .ref a ∧ PapC K cP ∧ PapAt C cP Hb a wd t ∧ words6[i]? = some wd ∧ HasBool P w K mg base cP b ∧ bools6[i]? = some b := by
    intro i v h
    match i, h with
    | 0, h => simp at h; subst h; exact ⟨_, _, _, _, _, rfl, KF.aL.c, p5.pap, rfl, KF.bL, rfl⟩
    | 1, h => simp at h; subst h; exact ⟨_, _, _, _, _, rfl, KF.aG.c, p7.pap, rfl, KF.bG, rfl⟩
    | 2, h => simp at h; subst h; exact ⟨_, _, _, _, _, rfl, KF.aS.c, p8.pap, rfl, KF.bS, rfl⟩
    | 3, h => simp at h; subst h; exact ⟨_, _, _, _, _, rfl, KF.aN.c, p9.pap, rfl, KF.bN, rfl⟩
    | 4, h => simp at h; subst h; exact ⟨_, _, _, _, _, rfl, KF.aA.c, pA.pap, rfl, KF.bA, rfl⟩
    | 5, h => simp at h; subst h; exact ⟨_, _, _, _, _, rfl, KF.aT.c, pB.pap, rfl, KF.bT, rfl⟩
    | i + 6, h => simp at h
  have w6 : words6.length = 6 := rfl
  have bb6 : bools6.length = 6 := rfl
  have six6 : [V.ref x1, .ref x3, .ref x4, .ref x5, .ref x6, .ref x7].length = 6 := rfl
  have h6 : (upd Hh l6 (.lst [V.ref x1, .ref x3, .ref x4, .ref x5, .ref x6, .ref x7])) l6 = some (.lst [V.ref x1, .ref x3, .ref x4, .ref x5, .ref x6, .ref x7]) := upd_same
  revert s6 h6 hD6
  generalize upd Hh l6 (.lst [V.ref x1, .ref x3, .ref x4, .ref x5, .ref x6, .ref x7]) = Hi
  intro hD6 s6 h6
  have sbi := sbh.trans s6
  refine lc_list (K := K) (a := l6) (xs := [V.ref x1, .ref x3, .ref x4, .ref x5, .ref x6, .ref x7]) (fun i H5 => Same Hi H5 ∧ H5 D6 = some (.lst ((words6.take i).map V.str))) ⟨upd_new hD6, upd_same⟩ (fun i H5 _ z => SqL.of (z.1 _ _ h6)) ?_ ?_
  · rintro i x H5 hx ⟨s5, h5⟩
    obtain ⟨a, cP, wd, t, b, rfl, pc, pa, hw, _⟩ := six i x hx
    obtain ⟨dx, fs, v, g, lw, _⟩ := pa
    have hi := (List.getElem?_eq_some_iff.mp hw).1
    refine ⟨rfl, yes_of ⟨_, rfl, a, cP, dx, fs, _, rfl, s5 _ _ (sbi _ _ g), pc.cl, pc.nW, lw, _, h5, by rw [List.length_map, List.length_take]; omega, fun c o z => by rw [upd_ne (ne_of_none z hD6)]; exact s5 _ _ z, by rw [upd_same, take_str hw]⟩⟩
  rintro Hj ⟨sJ, hJ⟩
  have sbj := sbi.trans sJ
  rw [six6, show words6.take 6 = words6 from rfl] at hJ
  refine ⟨(by show 6 ≤ sizeLine; omega), fun l7 n7 => ?_⟩
  have s7 := upd_new (o := .lst [V.str "least", .str "good", .str "stuck", .str "never", .str "parted", .str "together"]) n7
  refine ⟨_, _, .lst (SqL.of (s7 _ _ hJ)) (dps_str words6), .lst (SqL.of upd_same) (dps_str words6), words6_ok.1, words6_ok.1, false, by rw [words6_ok.2]; rfl, iteF ?_⟩
  have sbk := sbj.trans s7
  revert sbk
  generalize upd Hj l7 (.lst [V.str "least", .str "good", .str "stuck", .str "never", .str "parted", .str "together"]) = Hk
  intro sbk
  -- the truths
  refine ⟨_, rfl, _, rfl, _, rfl, _, rfl, _, rfl, _, rfl, (by show 6 ≤ sizeLine; omega), fun l8 n8 => ⟨l8, rfl, ⟨_, SqL.of upd_same⟩, fun D8 hD8 => ?_⟩⟩
  have s8 := upd_new (o := .lst [V.ref x1, .ref x3, .ref x4, .ref x5, .ref x6, .ref x7]) n8
  have h8 : (upd Hk l8 (.lst [V.ref x1, .ref x3, .ref x4, .ref x5, .ref x6, .ref x7])) l8 = some (.lst [V.ref x1, .ref x3, .ref x4, .ref x5, .ref x6, .ref x7]) := upd_same
  revert s8 h8 hD8
  generalize upd Hk l8 (.lst [V.ref x1, .ref x3, .ref x4, .ref x5, .ref x6, .ref x7]) = Hl
  intro hD8 s8 h8
  have sbl := sbk.trans s8
  refine lc_list (K := K) (a := l8) (xs := [V.ref x1, .ref x3, .ref x4, .ref x5, .ref x6, .ref x7]) (fun i H5 => Same Hl H5 ∧ H5 D8 = some (.lst ((bools6.take i).map V.bl))) ⟨upd_new hD8, upd_same⟩ (fun i H5 _ z => SqL.of (z.1 _ _ h8)) ?_ ?_
  · rintro i x H5 hx ⟨s5, h5⟩
    obtain ⟨a, cP, wd, t, b, rfl, pc, pa, _, hb, hw⟩ := six i x hx
    obtain ⟨dx, fs, v, g, _⟩ := pa
    have hi := (List.getElem?_eq_some_iff.mp hw).1
    refine ⟨rfl, yes_of ⟨_, rfl, a, cP, dx, fs, b, rfl, s5 _ _ (sbl _ _ g), hb, _, h5, by rw [List.length_map, List.length_take]; omega, fun c o z => by rw [upd_ne (ne_of_none z hD8)]; exact s5 _ _ z, by rw [upd_same, take_bl hw]⟩⟩
  rintro Hm ⟨sM, hM⟩
  have sbm := sbl.trans sM
  rw [six6, show bools6.take 6 = bools6 from rfl] at hM
  refine ⟨(by show 6 ≤ sizeLine; omega), fun l9' n9 => ?_⟩
  have s9 := upd_new (o := .lst [V.bl true, .bl true, .bl false, .bl false, .bl true, .bl false]) n9
  refine ⟨_, _, .lst (SqL.of (s9 _ _ hM)) (dps_bl bools6), .lst (SqL.of upd_same) (dps_bl bools6), bools6_ok.1, bools6_ok.1, false, by rw [bools6_ok.2]; rfl, iteF ?_⟩
  have sbn := sbm.trans s9
  revert sbn
  generalize upd Hm l9' (.lst [V.bl true, .bl true, .bl false, .bl false, .bl true, .bl false]) = Hn
  intro sbn
  -- the classes
  refine ⟨_, rfl, _, _, _, _, true, rfl, .own CD, .base ((p8.pap.same sbn).ty KF.aS.c), KF.isS, true, rfl, iteF ?_⟩
  refine ⟨_, rfl, _, _, _, _, false, rfl, .own CD, .base ((p7.pap.same sbn).ty KF.aG.c), KF.isG, false, rfl, iteF ?_⟩
  refine or_tst ?_
  refine mkr1_c (i := 1) HP.ne rfl (q1.same sbn) sm1 (by decide) fun xp Ho sO pO => ?_
  have sbo := sbn.trans sO
  refine ⟨_, rfl, pap_cls KF.aP KF.aG KF.cPG pO (p7.pap.same sbo) (dO _ y1) (dO _ y1) ⟨false, rfl, iteF ?_⟩⟩
  refine tst_op ?_
  refine ⟨_, rfl, ?_⟩
  refine mkk_c fun xk dk fk Hp' sP hK => ?_
  have sbp := sbo.trans sP
  refine pap_other KF.aG (p7.pap.same sbp) (dO _ y1) hK (KF.kT _ _ _ _ hK) KF.kM KF.kN KF.kF ⟨false, rfl, iteF ?_⟩
  -- the end
  refine ⟨_, rfl, x1, cL, dx1, fs1, w1, rfl, sbp _ _ i1, KF.aL.c.cl, KF.aL.c.nP, i3, ?_⟩
  refine ⟨_, rfl, _, rfl, _, rfl, _, rfl, (by show 4 ≤ sizeLine; omega), fun le nle => ⟨le, rfl, ⟨_, SqL.of upd_same⟩, fun De hDe => ?_⟩⟩
  have sQ := upd_new (o := .lst [v1, v2, v3, v4]) nle
  have hle : (upd Hp' le (.lst [v1, v2, v3, v4])) le = some (.lst [v1, v2, v3, v4]) := upd_same
  revert sQ hle hDe
  generalize upd Hp' le (.lst [v1, v2, v3, v4]) = Hq
  intro hDe sQ hle
  have sbq := sbp.trans sQ
  have al4 : AllI (Tr C Hb 2) [v1, v2, v3, v4] [t1, t2, t3, t4] := .cons' q1 (.cons' q2 (.cons' q3 (.cons' q4 .nil')))
  have sm4' : ∀ t ∈ [t1, t2, t3, t4], Sml 2 t := fun t ht => sm9 t (by
    simp only [List.mem_cons, List.not_mem_nil, or_false] at ht ⊢
    rcases ht with rfl | rfl | rfl | rfl <;> simp)
  have eg4 : fixL [t1, t2, t3, t4] = [fix t1, fix t2, fix t3, fix t4] := by rw [fixL_map]; rfl
  obtain ⟨dep4, lsm4⟩ := tup_fix sm4' (by show 4 ≤ 100; decide)
  refine lc_list (K := K) (a := le) (xs := [v1, v2, v3, v4]) (fun i H5 => Same Hq H5 ∧ Done C H5 De (fixL [t1, t2, t3, t4]) i) ⟨upd_new hDe, .zero⟩ (fun i H5 _ z => SqL.of (z.1 _ _ hle)) ?_ ?_
  · rintro i x H5 hx ⟨s5, dn⟩
    obtain ⟨t, et, rt⟩ := al4.to hx
    refine ⟨rfl, yes_of ⟨x, rfl, fix9 (E := E0) (rt.same (sbq.trans s5)) (sm4' t (List.mem_of_getElem? et)) (by decide) fun v' H6 s6 r6 => ?_⟩⟩
    obtain ⟨acc, y1, y2, y3⟩ := dn.step (fixL_fx sm4') (by rw [fixL_len]; show 4 ≤ 1000; decide) (fixL_get et) s6 r6
    exact ⟨acc, y1, y2, fun c o z => by rw [upd_ne (ne_of_none z hDe)]; exact s6 _ _ (s5 _ _ z), y3⟩
  rintro Hr ⟨sR, dn⟩
  rw [show [v1, v2, v3, v4].length = (fixL [t1, t2, t3, t4]).length by rw [fixL_len]; rfl] at dn
  obtain ⟨us4, hu4, r4⟩ := dn.tup
  have sbr := sbq.trans sR
  refine .inl ⟨De, us4, rfl, SqL.of hu4, fun pe npe => ?_⟩
  have sS := upd_new (o := .tup us4) npe
  have sbs := sbr.trans sS
  have tp := r4 pe npe
  rw [eg4] at tp dep4 lsm4
  refine ⟨w1, .ref pe, _, rfl, (i4.same sbs).mono dL, tp.mono dL, lsm4.mono (by decide), fun Ht sT => ?_⟩
  have sbt := sbs.trans sT
  exact q Ht (tF.same sbt) fun c o ne e => sbt _ _ (k04 _ _ ne e)
end
end K2

/-! The facts of the opened module, and what they give. -/
namespace K2
open PySem PySem.Spec PyProof.Rows L2 K1 LamX

theorem propB_ok {K : PySem.W.Frag} {m : Str} (h : propB K m = true) : PropOf K (rC K) m (He.ma K (rC K) m) (gP K m) := by
  obtain ⟨h1, h⟩ := He.ba h
  obtain ⟨h2, h⟩ := He.ba h
  obtain ⟨h3, h4⟩ := He.ba h
  refine ⟨He.eqO_ok h1, He.eqO_ok h2, of_decide_eq_true h3, ?_⟩
  unfold gP
  split at h4
  · rename_i f r e
    exact ⟨r, by rw [e]⟩
  · cases h4
theorem ownB_ok {K : PySem.W.Frag} {m : Str} (h : ownB K m = true) : OwnM K (rC K) m (He.ma K (rC K) m) := ⟨He.eqO_ok (He.ba h).1, (He.ba h).2⟩

theorem inhB_ok {K : PySem.W.Frag} {c d m : Str} (h : inhB K c d m = true) : OwnM K (He.ga K c) m (He.ma K (He.ga K d) m) := ⟨He.eqO_ok (He.ba h).1, (He.ba h).2⟩
theorem papB_ok {K : PySem.W.Frag} {c : Str} (h : papB K c = true) : Cls K (He.ga K c) ∧ NoAttr K (He.ga K c) "word" ∧ NoAttr K (He.ga K c) "parts" ∧ Mk K (He.ga K c) (He.ma K (He.ga K c) "__init__") ∧ PySem.W.makesIn K (He.ga K c) = true ∧ PySem.W.notFirst K (He.ga K c) (.type "tuple") = true ∧ He.ga K c ≠ rC K := by
  obtain ⟨h1, h⟩ := He.ba h
  obtain ⟨h2, h⟩ := He.ba h
  obtain ⟨h3, h⟩ := He.ba h
  obtain ⟨h4, h⟩ := He.ba h
  obtain ⟨h5, h⟩ := He.ba h
  obtain ⟨h6, h7⟩ := He.ba h
  exact ⟨He.cls_ok h1, He.noat_ok h2, He.noat_ok h3, He.mkr_ok h4, h5, h6, of_decide_eq_false (by simpa using h7)⟩
theorem mroB_ok {C : Addr} {l : List Value} (h : mroB C l = true) : ∃ bm, l = .ref C :: bm ∧ PySem.HandSPX.refsVE bm = true := by
  unfold mroB at h
  split at h
  · rename_i c bm
    obtain ⟨h1, h2⟩ := He.ba h
    exact ⟨bm, by rw [of_decide_eq_true h1], h2⟩
  · cases h
theorem oexB_ok {K : PySem.W.Frag} {C : Addr} (h : oexB K C = true) :
    ∃ nm q N bs bm sn sub ab col dd k0 k1 k2 k3 k5, K.lookup C = some (excClassObj nm q C N bs bm true sn sub ab col dd k0 k1 k2 k3 k5 "ValueError.__new__") ∧ PySem.HandSPX.refsVE bm = true := by
  unfold oexB at h
  cases q : K.lookup C with
  | none => rw [q] at h; cases h
  | some o =>
    obtain ⟨oc, od, dt, sl⟩ := o
    rw [q] at h
    cases oc with
    | type t =>
      cases dt with
      | cls cd =>
        have h' : (t == "type" && ((match sl.toList with
          | [_, _, _, _, some (.builtin n), _] => n == "ValueError.__new__"
          | _ => false) && (!cd.hasDel && (cd.hasDict && mroB C cd.mro)))) = true := h
        obtain ⟨a1, h'⟩ := He.ba h'
        obtain ⟨a2, h'⟩ := He.ba h'
        obtain ⟨a3, h'⟩ := He.ba h'
        obtain ⟨a4, a5⟩ := He.ba h'
        have a1 := eq_of_beq a1
        subst a1
        split at a2
        · rename_i k0 k1 k2 k3 n k5 hs
          have a2 := eq_of_beq a2
          subst a2
          have hsl : sl = #[k0, k1, k2, k3, some (.builtin "ValueError.__new__"), k5] := by
            obtain ⟨l⟩ := sl
            simp only at hs
            rw [hs]
          subst hsl
          obtain ⟨nm, bs, mro, ns, qn, hd, sn, sub, ab, col, del⟩ := cd
          simp only [Bool.not_eq_true'] at a3 a4
          obtain ⟨bm, e5, a6⟩ := mroB_ok a5
          simp only at e5
          subst a3 a4 e5
          exact ⟨nm, qn, ns, bs, bm, sn, sub, ab, col, od, k0, k1, k2, k3, k5, rfl, a6⟩
        · cases a2
      | _ => cases h
    | _ => cases h
/-- all that is asked for, but the defs -/
structure Facts (K : PySem.W.Frag) : Prop where
  free_ : (freeNames.all (fun x => He.eqO (PySem.W.nsIn K mainGlobals x) (some none))) = true
  gcd_ : (He.eqO (PySem.W.nsIn K mainGlobals "gcd") (some (some (.builtin "math.gcd")))) = true
  glo_ : (gloNames.all (fun x => He.eqO (PySem.W.nsIn K mainGlobals x) (some (some (.ref (He.ga K x)))))) = true
  dig_ : ((He.Fa.str "DIGITS" "0123456789").ok K) = true
  let_ : ((He.Fa.str "LETTERS" "abcdefghijklmnopqrstuvwxyz").ok K) = true
  s12_ : ((He.Fa.int "MOST_SIGNS" 12).ok K) = true
  cls_ : ((He.Fa.cls "Ratio").ok K) = true
  nT_ : ((He.Fa.noat "Ratio" "top").ok K) = true
  nB_ : ((He.Fa.noat "Ratio" "bottom").ok K) = true
  mkr_ : ((He.Fa.mkr "Ratio").ok K) = true
  ha_ : ((["Ratio", "Keeper", "Paper", "Denial", "Least", "Never", "Good", "Stuck", "Parted", "Together"] : List Str).all (fun x => He.eqO (PySem.W.findIn K (.ref (He.ga K x)) "__class__") (some (some (.builtin "object.__class__"))))) = true
  hn_ : (He.eqO (PySem.W.specialIn K (.builtin "object.__class__") "__get__") (some (some (.builtin "getset_descriptor.__get__")))) = true
  ht_ : (decide (PySem.W.takesIn K (.builtin "object.__class__") = some true)) = true
  hm_ : ((["Ratio", "Keeper", "Paper", "Denial", "Least", "Never", "Good", "Stuck", "Parted", "Together"] : List Str).all (fun x => decide (PySem.W.mroIn K (He.ga K x) (.type "object") = some true))) = true
  me_ : (decide (PySem.W.kitOne K (.ref (rC K)) (.ref (rC K)) = some true)) = true
  noI_ : (decide (PySem.W.kitOne K (.ref (rC K)) (.type "int") = some false)) = true
  noB_ : (decide (PySem.W.kitOne K (.ref (rC K)) (.type "bool") = some false)) = true
  kits_ : (("int" :: kinds6).all (fun T => decide (PySem.W.kitOne K (.type T) (.ref (rC K)) = some false))) = true
  rx_ : (["list", "tuple", "dict"].all (fun T => decide (PySem.W.kitOne K (.ref (rC K)) (.type T) = some false))) = true
  own_ : ((["__eq__", "__str__", "__repr__"] : List Str).all (ownB K)) = true
  nfo_ : (PySem.W.notFirst K (rC K) (.ref (rC K))) = true
  nf_ : ((["NoneType", "bool", "int", "str", "tuple"] : List String).all (fun T => PySem.W.notFirst K (rC K) (.type T))) = true
  sub_ : ((["NoneType", "bool", "int", "str", "tuple"] : List String).all (fun T => decide (PySem.W.subIn K (.ref (rC K)) (.type T) = some false))) = true
  props_ : (propB K "sign") = true
  rd_ : (PySem.W.readsIn K (rC K) (.type "type")) = true
  rga_ : (He.eqO (PySem.W.specialIn K (.ref (rC K)) "__getattribute__") (some (some (.builtin "type.__getattribute__")))) = true
  sm_ : (He5.wrapB K (rC K) "staticmethod" "staticmethod.__get__" "of") = true
  bo_ : (oexB K (bC K)) = true
  bs_ : (He.eqO (PySem.W.findIn K (.ref (bC K)) "__setattr__") (some (some (.builtin "object.__setattr__")))) = true
  bt_ : (decide (PySem.W.typeIn K (.ref (bC K)) = some (.type "type"))) = true
  bk_ : (PySem.W.keepIn K (.ref (bC K))) = true
  bx_ : (xfB K (bC K)) = true
  bn_ : (He.eqO (PySem.W.findIn K (.ref (bC K)) "part") (some none)) = true
  be_ : (decide (PySem.W.exmOne K (.ref (bC K)) (.ref (bC K)) = some true)) = true
  bi_ : (He.eqO (PySem.W.findIn K (.ref (bC K)) "__init__") (some (some (.ref (He.ma K (bC K) "__init__"))))) = true
  bj_ : (decide (PySem.W.typeIn K (.ref (He.ma K (bC K) "__init__")) = some (.type "function"))) = true
  pPaper_ : (papB K "Paper") = true
  pDenial_ : (papB K "Denial") = true
  pLeast_ : (papB K "Least") = true
  pNever_ : (papB K "Never") = true
  pGood_ : (papB K "Good") = true
  pStuck_ : (papB K "Stuck") = true
  pParted_ : (papB K "Parted") = true
  pTogether_ : (papB K "Together") = true
  oPapereq_ : (inhB K "Paper" "Paper" "__eq__") = true
  oPaperbool_ : (inhB K "Paper" "Paper" "__bool__") = true
  oDenialeq_ : (inhB K "Denial" "Denial" "__eq__") = true
  oDenialbool_ : (inhB K "Denial" "Denial" "__bool__") = true
  oLeasteq_ : (inhB K "Least" "Paper" "__eq__") = true
  oLeastbool_ : (inhB K "Least" "Paper" "__bool__") = true
  oNevereq_ : (inhB K "Never" "Denial" "__eq__") = true
  oNeverbool_ : (inhB K "Never" "Denial" "__bool__") = true
  oGoodeq_ : (inhB K "Good" "Paper" "__eq__") = true
  oGoodbool_ : (inhB K "Good" "Paper" "__bool__") = true
  oStuckeq_ : (inhB K "Stuck" "Denial" "__eq__") = true
  oStuckbool_ : (inhB K "Stuck" "Denial" "__bool__") = true
  oPartedeq_ : (inhB K "Parted" "Paper" "__eq__") = true
  oPartedbool_ : (inhB K "Parted" "Paper" "__bool__") = true
  oTogethereq_ : (inhB K "Together" "Denial" "__eq__") = true
  oTogetherbool_ : (inhB K "Together" "Denial" "__bool__") = true
  nLeastnumber_ : ((He.Fa.noat "Least" "number").ok K) = true
  nLeastrow_ : ((He.Fa.noat "Least" "row").ok K) = true
  nLeastpinch_ : ((He.Fa.noat "Least" "pinch").ok K) = true
  nLeastfence_ : ((He.Fa.noat "Least" "fence").ok K) = true
  nNeversets_ : ((He.Fa.noat "Never" "sets").ok K) = true
  nGoodrow_ : ((He.Fa.noat "Good" "row").ok K) = true
  nStucksets_ : ((He.Fa.noat "Stuck" "sets").ok K) = true
  nParteddone_ : ((He.Fa.noat "Parted" "done").ok K) = true
  nTogetherlines_ : ((He.Fa.noat "Together" "lines").ok K) = true
  cPD_ : (decide (PySem.W.subIn K (.ref (He.ga K "Denial")) (.ref (He.ga K "Paper")) = some true) && !decide (He.ga K "Paper" = He.ga K "Denial")) = true
  cDP_ : (PySem.W.notFirst K (He.ga K "Denial") (.ref (He.ga K "Paper"))) = true
  cGA_ : (PySem.W.notFirst K (He.ga K "Good") (.ref (He.ga K "Parted")) && !decide (He.ga K "Good" = He.ga K "Parted")) = true
  cPG_ : (decide (PySem.W.subIn K (.ref (He.ga K "Good")) (.ref (He.ga K "Paper")) = some true) && !decide (He.ga K "Paper" = He.ga K "Good")) = true
  isS_ : (decide (PySem.W.kitOne K (.ref (He.ga K "Stuck")) (.ref (He.ga K "Denial")) = some true)) = true
  isG_ : (decide (PySem.W.kitOne K (.ref (He.ga K "Good")) (.ref (He.ga K "Denial")) = some false)) = true
  kc_ : ((He.Fa.cls "Keeper").ok K) = true
  k1_ : ((He.Fa.noat "Keeper" "name").ok K) = true
  k2_ : ((He.Fa.noat "Keeper" "purse").ok K) = true
  k3_ : ((He.Fa.noat "Keeper" "relied_on_by").ok K) = true
  kr_ : ((He.Fa.mkr "Keeper").ok K) = true
  km_ : (PySem.W.makesIn K (He.ga K "Keeper")) = true
  kn_ : (!decide (He.ga K "Good" = He.ga K "Keeper")) = true
  kf_ : (PySem.W.notFirst K (He.ga K "Good") (.ref (He.ga K "Keeper"))) = true
theorem facts_of {K : PySem.W.Frag} (h0 : factB0 K = true) (h1 : factB1 K = true) (h2 : factB2 K = true) (h3 : factB3 K = true) (h4 : factB4 K = true) (h5 : factB5 K = true) (h6 : factB6 K = true) (h7 : factB7 K = true) (h8 : factB8 K = true) (h9 : factB9 K = true) (h10 : factB10 K = true) : Facts K := by
  obtain ⟨ffree, h0⟩ := He.ba h0
  obtain ⟨fgcd, h0⟩ := He.ba h0
  obtain ⟨fglo, h0⟩ := He.ba h0
  obtain ⟨fdig, h0⟩ := He.ba h0
  obtain ⟨flet, h0⟩ := He.ba h0
  obtain ⟨fs12, h0⟩ := He.ba h0
  obtain ⟨fcls, h0⟩ := He.ba h0
  have fnT := h0
  obtain ⟨fnB, h1⟩ := He.ba h1
  obtain ⟨fmkr, h1⟩ := He.ba h1
  obtain ⟨fha, h1⟩ := He.ba h1
  obtain ⟨fhn, h1⟩ := He.ba h1
  obtain ⟨fht, h1⟩ := He.ba h1
  obtain ⟨fhm, h1⟩ := He.ba h1
  obtain ⟨fme, h1⟩ := He.ba h1
  have fnoI := h1
  obtain ⟨fnoB, h2⟩ := He.ba h2
  obtain ⟨fkits, h2⟩ := He.ba h2
  obtain ⟨frx, h2⟩ := He.ba h2
  obtain ⟨fown, h2⟩ := He.ba h2
  obtain ⟨fnfo, h2⟩ := He.ba h2
  obtain ⟨fnf, h2⟩ := He.ba h2
  obtain ⟨fsub, h2⟩ := He.ba h2
  have fprops := h2
  obtain ⟨frd, h3⟩ := He.ba h3
  obtain ⟨frga, h3⟩ := He.ba h3
  obtain ⟨fsm, h3⟩ := He.ba h3
  obtain ⟨fbo, h3⟩ := He.ba h3
  obtain ⟨fbs, h3⟩ := He.ba h3
  obtain ⟨fbt, h3⟩ := He.ba h3
  obtain ⟨fbk, h3⟩ := He.ba h3
  have fbx := h3
  obtain ⟨fbn, h4⟩ := He.ba h4
  obtain ⟨fbe, h4⟩ := He.ba h4
  obtain ⟨fbi, h4⟩ := He.ba h4
  obtain ⟨fbj, h4⟩ := He.ba h4
  obtain ⟨fpPaper, h4⟩ := He.ba h4
  obtain ⟨fpDenial, h4⟩ := He.ba h4
  obtain ⟨fpLeast, h4⟩ := He.ba h4
  have fpNever := h4
  obtain ⟨fpGood, h5⟩ := He.ba h5
  obtain ⟨fpStuck, h5⟩ := He.ba h5
  obtain ⟨fpParted, h5⟩ := He.ba h5
  obtain ⟨fpTogether, h5⟩ := He.ba h5
  obtain ⟨foPapereq, h5⟩ := He.ba h5
  obtain ⟨foPaperbool, h5⟩ := He.ba h5
  obtain ⟨foDenialeq, h5⟩ := He.ba h5
  have foDenialbool := h5
  obtain ⟨foLeasteq, h6⟩ := He.ba h6
  obtain ⟨foLeastbool, h6⟩ := He.ba h6
  obtain ⟨foNevereq, h6⟩ := He.ba h6
  obtain ⟨foNeverbool, h6⟩ := He.ba h6
  obtain ⟨foGoodeq, h6⟩ := He.ba h6
  obtain ⟨foGoodbool, h6⟩ := He.ba h6
  obtain ⟨foStuckeq, h6⟩ := He.ba h6
  have foStuckbool := h6
  obtain ⟨foPartedeq, h7⟩ := He.ba h7
  obtain ⟨foPartedbool, h7⟩ := He.ba h7
  obtain ⟨foTogethereq, h7⟩ := He.ba h7
  obtain ⟨foTogetherbool, h7⟩ := He.ba h7
  obtain ⟨fnLeastnumber, h7⟩ := He.ba h7
  obtain ⟨fnLeastrow, h7⟩ := He.ba h7
  obtain ⟨fnLeastpinch, h7⟩ := He.ba h7
  have fnLeastfence := h7
  obtain ⟨fnNeversets, h8⟩ := He.ba h8
  obtain ⟨fnGoodrow, h8⟩ := He.ba h8
  obtain ⟨fnStucksets, h8⟩ := He.ba h8
  obtain ⟨fnParteddone, h8⟩ := He.ba h8
  obtain ⟨fnTogetherlines, h8⟩ := He.ba h8
  obtain ⟨fcPD, h8⟩ := He.ba h8
  obtain ⟨fcDP, h8⟩ := He.ba h8
  have fcGA := h8
  obtain ⟨fcPG, h9⟩ := He.ba h9
  obtain ⟨fisS, h9⟩ := He.ba h9
  obtain ⟨fisG, h9⟩ := He.ba h9
  obtain ⟨fkc, h9⟩ := He.ba h9
  obtain ⟨fk1, h9⟩ := He.ba h9
  obtain ⟨fk2, h9⟩ := He.ba h9
  obtain ⟨fk3, h9⟩ := He.ba h9
  have fkr := h9
  obtain ⟨fkm, h10⟩ := He.ba h10
  obtain ⟨fkn, h10⟩ := He.ba h10
  have fkf := h10
  exact ⟨ffree, fgcd, fglo, fdig, flet, fs12, fcls, fnT, fnB, fmkr, fha, fhn, fht, fhm, fme, fnoI, fnoB, fkits, frx, fown, fnfo, fnf, fsub, fprops, frd, frga, fsm, fbo, fbs, fbt, fbk, fbx, fbn, fbe, fbi, fbj, fpPaper, fpDenial, fpLeast, fpNever, fpGood, fpStuck, fpParted, fpTogether, foPapereq, foPaperbool, foDenialeq, foDenialbool, foLeasteq, foLeastbool, foNevereq, foNeverbool, foGoodeq, foGoodbool, foStuckeq, foStuckbool, foPartedeq, foPartedbool, foTogethereq, foTogetherbool, fnLeastnumber, fnLeastrow, fnLeastpinch, fnLeastfence, fnNeversets, fnGoodrow, fnStucksets, fnParteddone, fnTogetherlines, fcPD, fcDP, fcGA, fcPG, fisS, fisG, fkc, fk1, fk2, fk3, fkr, fkm, fkn, fkf⟩
end K2

namespace K2
open PySem PySem.Spec PyProof.Rows L2 K1 LamX
theorem vals_getD {zs : List V} {ws : List Value} (h : Vals zs ws) : ∀ i : Nat, RelV (zs.getD i .non) (ws.getD i .none) := by
  induction h with
  | nil => intro i; exact rfl
  | cons a _ ih => intro i; cases i with
    | zero => exact a
    | succ i => exact ih i
theorem vals_app {as bs : List V} {us ws : List Value} (h : Vals as us) (g : Vals bs ws) : Vals (as ++ bs) (us ++ ws) := by
  induction h with
  | nil => exact g
  | cons a _ ih => exact .cons a ih
theorem kb_of {K : PySem.W.Frag} {x qual : Str} {params : Arguments} {body : List Stmt} {scope : Scope} {f : Addr} {fd : FuncData} {ps ks : List Str} {g : List Value → List Value → List Value} {gV : List V → List V → List V} (F : FunD K x qual params body scope [] [] f fd)
    (h : ∀ (kV doc pm : Value) (an : Option Addr) (cdv ct : Value) (us ws : List Value), us.length = 1 → ws.length = ks.length → bindArgs (PySem.W.fnOf x qual params body scope Value.none kV doc pm an cdv ct) { pos := us, kw := ks.zip ws } = pure (ps.zip (g us ws)))
    (r : ∀ {vs : List V} {us : List Value} {zs : List V} {ws : List Value}, Vals vs us → Vals zs ws → Vals (gV vs zs) (g us ws)) : KBn K fd ps 1 ks g gV := by
  obtain ⟨oc, od, dV, kV, doc, pm, an, cdv, ct, osl, e, lk, hcd, hD, _⟩ := F.ex
  refine ⟨fun s us ws _ h1 h2 => ?_, r⟩
  rcases hD with ⟨_, e2⟩ | ⟨e2, _⟩
  · subst e2
    subst e
    exact BindsTo.of_eq (h kV doc pm an cdv ct us ws h1 h2)
  · exact absurd rfl e2
section
variable {P : Program} {w : World} {K : PySem.W.Frag} {mg : Str → Option Value} {base : Heap}
theorem law_in (X : K.In base) (N : base.Ns mainGlobals mg) (fa : Facts K) (sd : He5.SaysA [] fns K) :
    ∃ fd, DefAt K "law" "law" sLaw (He.ga K "law") fd ∧ FnOk P w K mg base CX0 20 (He.ga K "law") fd ["_law_script"] (spLaw K) := by
  have fr : ∀ x ∈ freeNames, mg x = none := fun x hx => PySem.W.mg_none_of X N (He.eqO_ok (List.all_eq_true.mp fa.free_ x hx))
  have gl : ∀ x ∈ gloNames, mg x = some (.ref (He.ga K x)) := fun x hx => PySem.W.mg_of X N (He.eqO_ok (List.all_eq_true.mp fa.glo_ x hx))
  have G : Glob mg := ⟨fr _ (by simp [freeNames]), fr _ (by simp [freeNames]), fr _ (by simp [freeNames]), fr _ (by simp [freeNames]), fr _ (by simp [freeNames]), fr _ (by simp [freeNames]), fr _ (by simp [freeNames]), fr _ (by simp [freeNames]), fr _ (by simp [freeNames]), fr _ (by simp [freeNames]), fr _ (by simp [freeNames]), PySem.W.mg_of X N (He.eqO_ok fa.gcd_)⟩
  have G2 : Glob2 mg := ⟨fr _ (by simp [freeNames]), fr _ (by simp [freeNames]), fr _ (by simp [freeNames]), fr _ (by simp [freeNames])⟩
  obtain ⟨t1, c1⟩ := He.str_ok X N fa.dig_
  obtain ⟨t2, c2⟩ := He.str_ok X N fa.let_
  obtain ⟨t4, c4⟩ := He.int_ok X N fa.s12_
  have CO : CN mg := ⟨⟨_, c1, ⟨_, rfl⟩⟩, ⟨_, c2, ⟨_, rfl⟩⟩, ⟨_, c4, ⟨_, rfl⟩⟩⟩
  have ha : ∀ c ∈ (["Ratio", "Keeper", "Paper", "Denial", "Least", "Never", "Good", "Stuck", "Parted", "Together"] : List Str), PySem.W.findIn K (.ref (He.ga K c)) "__class__" = some (some (.builtin "object.__class__")) := fun c h => He.eqO_ok (List.all_eq_true.mp fa.ha_ c h)
  have hm : ∀ c ∈ (["Ratio", "Keeper", "Paper", "Denial", "Least", "Never", "Good", "Stuck", "Parted", "Together"] : List Str), PySem.W.mroIn K (He.ga K c) (.type "object") = some true := fun c h => of_decide_eq_true (List.all_eq_true.mp fa.hm_ c h)
  have hn := He.eqO_ok fa.hn_
  have ht := of_decide_eq_true fa.ht_
  have kits : ∀ T ∈ "int" :: kinds6, PySem.W.kitOne K (.type T) (.ref (rC K)) = some false := fun T hT => of_decide_eq_true (List.all_eq_true.mp fa.kits_ T hT)
  have R : RatF K (rC K) := ⟨He.cls_ok fa.cls_, He.noat_ok fa.nT_, He.noat_ok fa.nB_, ha "Ratio" (by simp), hn, ht, hm "Ratio" (by simp), of_decide_eq_true fa.me_, of_decide_eq_true fa.noI_, of_decide_eq_true fa.noB_, kits _ (.head _), fun T hT => kits T (.tail _ hT)⟩
  have rx : ∀ T ∈ (["list", "tuple", "dict"] : List String), PySem.W.kitOne K (.ref (rC K)) (.type T) = some false := fun T hT => of_decide_eq_true (List.all_eq_true.mp fa.rx_ T hT)
  have RX : RatX K (rC K) := ⟨rx _ (by simp), rx _ (by simp), rx _ (by simp)⟩
  have gR : mg "Ratio" = some (.ref (rC K)) := gl _ (by simp [gloNames])
  have EX : EqX K (rC K) := ⟨fa.nfo_, fun T hT => List.all_eq_true.mp fa.nf_ T hT, fun T hT => of_decide_eq_true (List.all_eq_true.mp fa.sub_ T hT)⟩
  have xf := xfB_ok fa.bx_
  obtain ⟨d1, F1⟩ := sd.def_ 1
  have BR : BadR P w K mg base (bC K) := ⟨⟨gl _ (by simp [gloNames]), xf, He.eqO_ok fa.bn_, of_decide_eq_true fa.be_⟩, ⟨oexB_ok fa.bo_, He.eqO_ok fa.bs_, xf.exC, of_decide_eq_true fa.bt_, fa.bk_⟩, ⟨_, d1, He.eqO_ok fa.bi_, of_decide_eq_true fa.bj_, F1⟩⟩
  obtain ⟨disuinteger, Fisuinteger⟩ := sd.def_ 20
  replace Fisuinteger : DefAt K "is_integer" "is_integer" sIsInt (He.ga K "is_integer") disuinteger := Fisuinteger
  have bisuinteger : Binds K disuinteger ["value"] [] := Fisuinteger.bindsN fun _ _ _ _ _ _ us hl => match us, hl with | [_], _ => rfl
  have gisuinteger : mg "is_integer" = some (.ref (He.ga K "is_integer")) := gl _ (by simp [gloNames])
  have HI : HasInt P w K mg base := ⟨⟨_, disuinteger, gisuinteger, Fisuinteger.kp, bisuinteger, ok_isInt G Fisuinteger⟩⟩
  obtain ⟨d0, F0⟩ := sd.def_ 0
  replace F0 : FunD K "__init__" "Ratio.__init__" (defArgs sRInit) (defBody sRInit) (defScope sRInit) [.int 1] [] (He.ma K (rC K) "__init__") d0 := F0
  have okI : FnOk P w K mg base (L2.CX P w) 3 (He.ma K (rC K) "__init__") d0 ["self", "top", "bottom"] (spRI K (rC K) (bC K)) := ok_rinit G R BR HI F0
  obtain ⟨ds0, v0, bi0⟩ : ∃ ds, Vals [] ds ∧ Binds K d0 ["self", "top", "bottom"] ds := F0.binds1 3 1 (List.cons_ne_nil _ _) rfl fun T kV doc pm an cdv ct us its hu hi => match us, its, hu, hi with
    | [_, _, _], [_], _, _ => ⟨_, rfl, rfl⟩
  obtain ⟨ds1, v1, bi1⟩ : ∃ ds, Vals [.int 1] ds ∧ Binds K d0 ["self", "top", "bottom"] ds := F0.binds1 2 0 (List.cons_ne_nil _ _) rfl fun T kV doc pm an cdv ct us its hu hi => match us, its, hu, hi with
    | [_, _], [_], _, _ => ⟨_, rfl, rfl⟩
  cases v0
  have MR : MkR P w K mg base (rC K) (bC K) := ⟨gR, _, d0, ds1, He.mkr_ok fa.mkr_, okI, bi0, v1, bi1⟩
  obtain ⟨duright, Furight⟩ := sd.def_ 25
  replace Furight : DefAt K "_right" "_right" sRight (He.ga K "_right") duright := Furight
  have buright : Binds K duright ["other"] [] := Furight.bindsN fun _ _ _ _ _ _ us hl => match us, hl with | [_], _ => rfl
  have guright : mg "_right" = some (.ref (He.ga K "_right")) := gl _ (by simp [gloNames])
  have HR : HasRight P w K mg base (rC K) (bC K) := ⟨⟨_, duright, guright, Furight.kp, buright, ok_right G R BR HI MR Furight⟩⟩
  obtain ⟨disuratio, Fisuratio⟩ := sd.def_ 26
  replace Fisuratio : DefAt K "is_ratio" "is_ratio" sIsRatio (He.ga K "is_ratio") disuratio := Fisuratio
  have bisuratio : Binds K disuratio ["value"] [] := Fisuratio.bindsN fun _ _ _ _ _ _ us hl => match us, hl with | [_], _ => rfl
  have gisuratio : mg "is_ratio" = some (.ref (He.ga K "is_ratio")) := gl _ (by simp [gloNames])
  have HQ : HasIsR P w K mg base (rC K) := ⟨⟨_, disuratio, gisuratio, Fisuratio.kp, bisuratio, ok_isR G R HI gR Fisuratio⟩⟩
  have CR : ClX.CRead K (rC K) (.type "type") := ⟨fa.rd_, He.eqO_ok fa.rga_⟩
  obtain ⟨d3, F3⟩ := sd.def_ 3
  replace F3 : DefAt K "of" "Ratio.of" sOf (He5.wf K (rC K) "staticmethod" "of") d3 := F3
  have SM : SMet K (rC K) "of" (He5.wf K (rC K) "staticmethod" "of") := ⟨⟨_, (He5.wrapB_ok fa.sm_).1, (He5.wrapB_ok fa.sm_).2⟩, F3.kp⟩
  obtain ⟨d2, F2⟩ := sd.def_ 2
  replace F2 : DefAt K "sign" "Ratio.sign" sSign (gP K "sign") d2 := F2
  have HO : HasOf2 P w K mg base (rC K) (bC K) := ⟨gR, CR, ⟨_, d3, SM, F3.bindsN (fun _ _ _ _ _ _ us hl => match us, hl with | [_], _ => rfl), ok_of BR HR HQ F3⟩, ⟨_, _, d2, propB_ok fa.props_, F2.bindsN (fun _ _ _ _ _ _ us hl => match us, hl with | [_], _ => rfl), ok_sign R F2⟩⟩
  have ow : ∀ m ∈ (["__eq__", "__str__", "__repr__"] : List Str), OwnM K (rC K) m (He.ma K (rC K) m) := fun m hm => ownB_ok (List.all_eq_true.mp fa.own_ m hm)
  obtain ⟨muuequu, Muuequu⟩ := sd.def_ 4
  replace Muuequu : DefAt K "__eq__" "Ratio.__eq__" sEq (He.ma K (rC K) "__eq__") muuequu := Muuequu
  have quuequu : Binds K muuequu ["self", "other"] [] := Muuequu.bindsN fun _ _ _ _ _ _ us hl => match us, hl with | [_, _], _ => rfl
  obtain ⟨muustruu, Muustruu⟩ := sd.def_ 5
  replace Muustruu : DefAt K "__str__" "Ratio.__str__" sStr (He.ma K (rC K) "__str__") muustruu := Muustruu
  have quustruu : Binds K muustruu ["self"] [] := Muustruu.bindsN fun _ _ _ _ _ _ us hl => match us, hl with | [_], _ => rfl
  obtain ⟨muurepruu, Muurepruu⟩ := sd.def_ 6
  replace Muurepruu : DefAt K "__repr__" "Ratio.__repr__" sRepr (He.ma K (rC K) "__repr__") muurepruu := Muurepruu
  have quurepruu : Binds K muurepruu ["self"] [] := Muurepruu.bindsN fun _ _ _ _ _ _ us hl => match us, hl with | [_], _ => rfl
  have RE : HasREq P w K mg base (rC K) := ⟨⟨_, muuequu, ok_eq G R HI gR Muuequu, quuequu, ow _ (by simp)⟩, EX⟩
  have HRp : HasRepr P w K mg base (rC K) := ⟨⟨_, muurepruu, ow _ (by simp), quurepruu, ok_repr G R Muustruu (ow "__str__" (by simp)) Muurepruu⟩⟩
  obtain ⟨disulisted, Fisulisted⟩ := sd.def_ 22
  replace Fisulisted : DefAt K "is_listed" "is_listed" sIsListed (He.ga K "is_listed") disulisted := Fisulisted
  have bisulisted : Binds K disulisted ["value"] [] := Fisulisted.bindsN fun _ _ _ _ _ _ us hl => match us, hl with | [_], _ => rfl
  have gisulisted : mg "is_listed" = some (.ref (He.ga K "is_listed")) := gl _ (by simp [gloNames])
  have HLi : HasListed P w K mg base := ⟨⟨_, disulisted, gisulisted, Fisulisted.kp, bisulisted, ok_listed G Fisulisted⟩⟩
  obtain ⟨dfixed, Ffixed⟩ := sd.def_ 28
  replace Ffixed : DefAt K "fixed" "fixed" sFixed (He.ga K "fixed") dfixed := Ffixed
  have bfixed : Binds K dfixed ["value"] [] := Ffixed.bindsN fun _ _ _ _ _ _ us hl => match us, hl with | [_], _ => rfl
  have gfixed : mg "fixed" = some (.ref (He.ga K "fixed")) := gl _ (by simp [gloNames])
  have okFx : FnOk P w K mg base CX0 11 (He.ga K "fixed") dfixed ["value"] (spFix (rC K) 9) := ok_fixed G G2 R RX Ffixed gfixed Ffixed.kp bfixed 9
  have HF9 : HasFix9 P w K mg base (rC K) := ⟨⟨_, dfixed, gfixed, Ffixed.kp, bfixed, okFx⟩⟩
  have FX : Fn0 P w K mg base 11 "fixed" ["value"] (spFix (rC K) 9) := ⟨⟨_, dfixed, gfixed, Ffixed.kp, bfixed, okFx⟩⟩
  obtain ⟨clPaper, nwPaper, npPaper, mkPaper, msPaper, ntPaper, nePaper⟩ := papB_ok fa.pPaper_
  have pcPaper : PapC K (He.ga K "Paper") := ⟨clPaper, nwPaper, npPaper, ha "Paper" (by simp), hn, ht, hm "Paper" (by simp)⟩
  obtain ⟨clDenial, nwDenial, npDenial, mkDenial, msDenial, ntDenial, neDenial⟩ := papB_ok fa.pDenial_
  have pcDenial : PapC K (He.ga K "Denial") := ⟨clDenial, nwDenial, npDenial, ha "Denial" (by simp), hn, ht, hm "Denial" (by simp)⟩
  obtain ⟨clLeast, nwLeast, npLeast, mkLeast, msLeast, ntLeast, neLeast⟩ := papB_ok fa.pLeast_
  have pcLeast : PapC K (He.ga K "Least") := ⟨clLeast, nwLeast, npLeast, ha "Least" (by simp), hn, ht, hm "Least" (by simp)⟩
  obtain ⟨clNever, nwNever, npNever, mkNever, msNever, ntNever, neNever⟩ := papB_ok fa.pNever_
  have pcNever : PapC K (He.ga K "Never") := ⟨clNever, nwNever, npNever, ha "Never" (by simp), hn, ht, hm "Never" (by simp)⟩
  obtain ⟨clGood, nwGood, npGood, mkGood, msGood, ntGood, neGood⟩ := papB_ok fa.pGood_
  have pcGood : PapC K (He.ga K "Good") := ⟨clGood, nwGood, npGood, ha "Good" (by simp), hn, ht, hm "Good" (by simp)⟩
  obtain ⟨clStuck, nwStuck, npStuck, mkStuck, msStuck, ntStuck, neStuck⟩ := papB_ok fa.pStuck_
  have pcStuck : PapC K (He.ga K "Stuck") := ⟨clStuck, nwStuck, npStuck, ha "Stuck" (by simp), hn, ht, hm "Stuck" (by simp)⟩
  obtain ⟨clParted, nwParted, npParted, mkParted, msParted, ntParted, neParted⟩ := papB_ok fa.pParted_
  have pcParted : PapC K (He.ga K "Parted") := ⟨clParted, nwParted, npParted, ha "Parted" (by simp), hn, ht, hm "Parted" (by simp)⟩
  obtain ⟨clTogether, nwTogether, npTogether, mkTogether, msTogether, ntTogether, neTogether⟩ := papB_ok fa.pTogether_
  have pcTogether : PapC K (He.ga K "Together") := ⟨clTogether, nwTogether, npTogether, ha "Together" (by simp), hn, ht, hm "Together" (by simp)⟩
  obtain ⟨iPaper, IPaper⟩ := sd.def_ 7
  replace IPaper : DefAt K "__init__" "Paper.__init__" sPInit (He.ma K (He.ga K "Paper") "__init__") iPaper := IPaper
  obtain ⟨ePaper, EPaper⟩ := sd.def_ 8
  replace EPaper : DefAt K "__eq__" "Paper.__eq__" sPEq (He.ma K (He.ga K "Paper") "__eq__") ePaper := EPaper
  have ebPaper : Binds K ePaper ["self", "other"] [] := EPaper.bindsN fun _ _ _ _ _ _ us hl => match us, hl with | [_, _], _ => rfl
  have eoPaper : FnOk P w K mg base CX0 14 (He.ma K (He.ga K "Paper") "__eq__") ePaper ["self", "other"] (spPEq K (rC K)) := ok_peq G2 R RE EPaper
  obtain ⟨oPaper, OPaper⟩ := sd.def_ 9
  replace OPaper : DefAt K "__bool__" "Paper.__bool__" sPBool (He.ma K (He.ga K "Paper") "__bool__") oPaper := OPaper
  have obPaper : Binds K oPaper ["self"] [] := OPaper.bindsN fun _ _ _ _ _ _ us hl => match us, hl with | [_], _ => rfl
  have ooPaper : FnOk P w K mg base CX0 1 (He.ma K (He.ga K "Paper") "__bool__") oPaper ["self"] (spPBool true) := ok_pbool OPaper
  have HPPaper : HasPap P w K mg base (rC K) (He.ga K "Paper") "Paper" := ⟨gl _ (by simp [gloNames]), nePaper, ⟨_, mkPaper, ok_pinit pcPaper nePaper HF9 IPaper⟩⟩
  obtain ⟨iDenial, IDenial⟩ := sd.def_ 10
  replace IDenial : DefAt K "__init__" "Denial.__init__" sDInit (He.ma K (He.ga K "Denial") "__init__") iDenial := IDenial
  obtain ⟨eDenial, EDenial⟩ := sd.def_ 11
  replace EDenial : DefAt K "__eq__" "Denial.__eq__" sDEq (He.ma K (He.ga K "Denial") "__eq__") eDenial := EDenial
  have ebDenial : Binds K eDenial ["self", "other"] [] := EDenial.bindsN fun _ _ _ _ _ _ us hl => match us, hl with | [_, _], _ => rfl
  have eoDenial : FnOk P w K mg base CX0 14 (He.ma K (He.ga K "Denial") "__eq__") eDenial ["self", "other"] (spPEq K (rC K)) := ok_deq G2 R RE EDenial
  obtain ⟨oDenial, ODenial⟩ := sd.def_ 12
  replace ODenial : DefAt K "__bool__" "Denial.__bool__" sDBool (He.ma K (He.ga K "Denial") "__bool__") oDenial := ODenial
  have obDenial : Binds K oDenial ["self"] [] := ODenial.bindsN fun _ _ _ _ _ _ us hl => match us, hl with | [_], _ => rfl
  have ooDenial : FnOk P w K mg base CX0 1 (He.ma K (He.ga K "Denial") "__bool__") oDenial ["self"] (spPBool false) := ok_dbool ODenial
  have HPDenial : HasPap P w K mg base (rC K) (He.ga K "Denial") "Denial" := ⟨gl _ (by simp [gloNames]), neDenial, ⟨_, mkDenial, ok_dinit pcDenial neDenial HF9 IDenial⟩⟩
  have alPaper : PapAll P w K mg base (rC K) (He.ga K "Paper") := ⟨pcPaper, msPaper, ⟨⟨_, ePaper, eoPaper, ebPaper, inhB_ok fa.oPapereq_⟩⟩, nePaper, ntPaper⟩
  have boPaper : HasBool P w K mg base (He.ga K "Paper") true := ⟨⟨_, oPaper, inhB_ok fa.oPaperbool_, obPaper, ooPaper⟩⟩
  have alDenial : PapAll P w K mg base (rC K) (He.ga K "Denial") := ⟨pcDenial, msDenial, ⟨⟨_, eDenial, eoDenial, ebDenial, inhB_ok fa.oDenialeq_⟩⟩, neDenial, ntDenial⟩
  have boDenial : HasBool P w K mg base (He.ga K "Denial") false := ⟨⟨_, oDenial, inhB_ok fa.oDenialbool_, obDenial, ooDenial⟩⟩
  have alLeast : PapAll P w K mg base (rC K) (He.ga K "Least") := ⟨pcLeast, msLeast, ⟨⟨_, ePaper, eoPaper, ebPaper, inhB_ok fa.oLeasteq_⟩⟩, neLeast, ntLeast⟩
  have boLeast : HasBool P w K mg base (He.ga K "Least") true := ⟨⟨_, oPaper, inhB_ok fa.oLeastbool_, obPaper, ooPaper⟩⟩
  have alNever : PapAll P w K mg base (rC K) (He.ga K "Never") := ⟨pcNever, msNever, ⟨⟨_, eDenial, eoDenial, ebDenial, inhB_ok fa.oNevereq_⟩⟩, neNever, ntNever⟩
  have boNever : HasBool P w K mg base (He.ga K "Never") false := ⟨⟨_, oDenial, inhB_ok fa.oNeverbool_, obDenial, ooDenial⟩⟩
  have alGood : PapAll P w K mg base (rC K) (He.ga K "Good") := ⟨pcGood, msGood, ⟨⟨_, ePaper, eoPaper, ebPaper, inhB_ok fa.oGoodeq_⟩⟩, neGood, ntGood⟩
  have boGood : HasBool P w K mg base (He.ga K "Good") true := ⟨⟨_, oPaper, inhB_ok fa.oGoodbool_, obPaper, ooPaper⟩⟩
  have alStuck : PapAll P w K mg base (rC K) (He.ga K "Stuck") := ⟨pcStuck, msStuck, ⟨⟨_, eDenial, eoDenial, ebDenial, inhB_ok fa.oStuckeq_⟩⟩, neStuck, ntStuck⟩
  have boStuck : HasBool P w K mg base (He.ga K "Stuck") false := ⟨⟨_, oDenial, inhB_ok fa.oStuckbool_, obDenial, ooDenial⟩⟩
  have alParted : PapAll P w K mg base (rC K) (He.ga K "Parted") := ⟨pcParted, msParted, ⟨⟨_, ePaper, eoPaper, ebPaper, inhB_ok fa.oPartedeq_⟩⟩, neParted, ntParted⟩
  have boParted : HasBool P w K mg base (He.ga K "Parted") true := ⟨⟨_, oPaper, inhB_ok fa.oPartedbool_, obPaper, ooPaper⟩⟩
  have alTogether : PapAll P w K mg base (rC K) (He.ga K "Together") := ⟨pcTogether, msTogether, ⟨⟨_, eDenial, eoDenial, ebDenial, inhB_ok fa.oTogethereq_⟩⟩, neTogether, ntTogether⟩
  have boTogether : HasBool P w K mg base (He.ga K "Together") false := ⟨⟨_, oDenial, inhB_ok fa.oTogetherbool_, obDenial, ooDenial⟩⟩
  obtain ⟨iNever, INever⟩ := sd.def_ 15
  replace INever : DefAt K "__init__" "Never.__init__" sNever (He.ma K (He.ga K "Never") "__init__") iNever := INever
  have HNever : HasOne P w K mg base (rC K) (He.ga K "Never") "Never" "never" "sets" := ⟨gl _ (by simp [gloNames]), ⟨_, iNever, mkNever, ok_never pcNever (He.noat_ok fa.nNeversets_) neNever HF9 INever, INever.bindsN (fun _ _ _ _ _ _ us hl => match us, hl with | [_, _], _ => rfl), kb_of INever (fun _ _ _ _ _ _ us ws h1 h2 => match us, ws, h1, h2 with | [_], [_], _, _ => rfl) vals_app⟩, He.noat_ok fa.nNeversets_⟩
  obtain ⟨iGood, IGood⟩ := sd.def_ 16
  replace IGood : DefAt K "__init__" "Good.__init__" sGood (He.ma K (He.ga K "Good") "__init__") iGood := IGood
  have HGood : HasOne P w K mg base (rC K) (He.ga K "Good") "Good" "good" "row" := ⟨gl _ (by simp [gloNames]), ⟨_, iGood, mkGood, ok_good pcGood (He.noat_ok fa.nGoodrow_) neGood HF9 IGood, IGood.bindsN (fun _ _ _ _ _ _ us hl => match us, hl with | [_, _], _ => rfl), kb_of IGood (fun _ _ _ _ _ _ us ws h1 h2 => match us, ws, h1, h2 with | [_], [_], _, _ => rfl) vals_app⟩, He.noat_ok fa.nGoodrow_⟩
  obtain ⟨iStuck, IStuck⟩ := sd.def_ 17
  replace IStuck : DefAt K "__init__" "Stuck.__init__" sStuck (He.ma K (He.ga K "Stuck") "__init__") iStuck := IStuck
  have HStuck : HasOne P w K mg base (rC K) (He.ga K "Stuck") "Stuck" "stuck" "sets" := ⟨gl _ (by simp [gloNames]), ⟨_, iStuck, mkStuck, ok_stuck pcStuck (He.noat_ok fa.nStucksets_) neStuck HF9 IStuck, IStuck.bindsN (fun _ _ _ _ _ _ us hl => match us, hl with | [_, _], _ => rfl), kb_of IStuck (fun _ _ _ _ _ _ us ws h1 h2 => match us, ws, h1, h2 with | [_], [_], _, _ => rfl) vals_app⟩, He.noat_ok fa.nStucksets_⟩
  obtain ⟨iParted, IParted⟩ := sd.def_ 18
  replace IParted : DefAt K "__init__" "Parted.__init__" sParted (He.ma K (He.ga K "Parted") "__init__") iParted := IParted
  have HParted : HasOne P w K mg base (rC K) (He.ga K "Parted") "Parted" "parted" "done" := ⟨gl _ (by simp [gloNames]), ⟨_, iParted, mkParted, ok_parted pcParted (He.noat_ok fa.nParteddone_) neParted HF9 IParted, IParted.bindsN (fun _ _ _ _ _ _ us hl => match us, hl with | [_, _], _ => rfl), kb_of IParted (fun _ _ _ _ _ _ us ws h1 h2 => match us, ws, h1, h2 with | [_], [_], _, _ => rfl) vals_app⟩, He.noat_ok fa.nParteddone_⟩
  obtain ⟨iTogether, ITogether⟩ := sd.def_ 19
  replace ITogether : DefAt K "__init__" "Together.__init__" sTogether (He.ma K (He.ga K "Together") "__init__") iTogether := ITogether
  have HTogether : HasOne P w K mg base (rC K) (He.ga K "Together") "Together" "together" "lines" := ⟨gl _ (by simp [gloNames]), ⟨_, iTogether, mkTogether, ok_together pcTogether (He.noat_ok fa.nTogetherlines_) neTogether HF9 ITogether, ITogether.bindsN (fun _ _ _ _ _ _ us hl => match us, hl with | [_, _], _ => rfl), kb_of ITogether (fun _ _ _ _ _ _ us ws h1 h2 => match us, ws, h1, h2 with | [_], [_], _, _ => rfl) vals_app⟩, He.noat_ok fa.nTogetherlines_⟩
  obtain ⟨iLeast, ILeast⟩ := sd.def_ 14
  replace ILeast : DefAt K "__init__" "Least.__init__" sLeast (He.ma K (He.ga K "Least") "__init__") iLeast := ILeast
  have HLeast : HasFour P w K mg base (rC K) (He.ga K "Least") := ⟨gl _ (by simp [gloNames]), ⟨_, iLeast, mkLeast, ok_least pcLeast (He.noat_ok fa.nLeastnumber_) (He.noat_ok fa.nLeastrow_) (He.noat_ok fa.nLeastpinch_) (He.noat_ok fa.nLeastfence_) neLeast HF9 ILeast, ILeast.bindsN (fun _ _ _ _ _ _ us hl => match us, hl with | [_, _, _, _, _], _ => rfl),
    (fun us ws => us ++ [ws.getD 2 .none, ws.getD 3 .none, ws.getD 1 .none, ws.getD 0 .none]), kb_of ILeast (fun _ _ _ _ _ _ us ws h1 h2 => match us, ws, h1, h2 with | [_], [_, _, _, _], _, _ => rfl) (fun a b => vals_app a (.cons (vals_getD b 2) (.cons (vals_getD b 3) (.cons (vals_getD b 1) (.cons (vals_getD b 0) .nil)))))⟩, He.noat_ok fa.nLeastnumber_, He.noat_ok fa.nLeastrow_, He.noat_ok fa.nLeastpinch_, He.noat_ok fa.nLeastfence_⟩
  obtain ⟨disuname, Fisuname⟩ := sd.def_ 21
  replace Fisuname : DefAt K "is_name" "is_name" sIsName (He.ga K "is_name") disuname := Fisuname
  have bisuname : Binds K disuname ["value"] [] := Fisuname.bindsN fun _ _ _ _ _ _ us hl => match us, hl with | [_], _ => rfl
  have gisuname : mg "is_name" = some (.ref (He.ga K "is_name")) := gl _ (by simp [gloNames])
  have HN : Fn0 P w K mg base 1 "is_name" ["value"] spKin := ⟨⟨_, disuname, gisuname, Fisuname.kp, bisuname, ok_kin G CO Fisuname⟩⟩
  obtain ⟨dareunames, Fareunames⟩ := sd.def_ 23
  replace Fareunames : DefAt K "are_names" "are_names" sAreNames (He.ga K "are_names") dareunames := Fareunames
  have bareunames : Binds K dareunames ["value"] [] := Fareunames.bindsN fun _ _ _ _ _ _ us hl => match us, hl with | [_], _ => rfl
  have gareunames : mg "are_names" = some (.ref (He.ga K "are_names")) := gl _ (by simp [gloNames])
  have HNs : Fn0 P w K mg base 2 "are_names" ["value"] spNone := ⟨⟨_, dareunames, gareunames, Fareunames.kp, bareunames, ok_names G HLi Fareunames⟩⟩
  obtain ⟨dcheckunoneutwice, Fcheckunoneutwice⟩ := sd.def_ 24
  replace Fcheckunoneutwice : DefAt K "check_none_twice" "check_none_twice" sNoneTwice (He.ga K "check_none_twice") dcheckunoneutwice := Fcheckunoneutwice
  have bcheckunoneutwice : Binds K dcheckunoneutwice ["items"] [] := Fcheckunoneutwice.bindsN fun _ _ _ _ _ _ us hl => match us, hl with | [_], _ => rfl
  have gcheckunoneutwice : mg "check_none_twice" = some (.ref (He.ga K "check_none_twice")) := gl _ (by simp [gloNames])
  have HTw : Fn0 P w K mg base 1 "check_none_twice" ["items"] spTwice := ⟨⟨_, dcheckunoneutwice, gcheckunoneutwice, Fcheckunoneutwice.kp, bcheckunoneutwice, ok_twice Fcheckunoneutwice⟩⟩
  obtain ⟨disuamount, Fisuamount⟩ := sd.def_ 27
  replace Fisuamount : DefAt K "is_amount" "is_amount" sIsAmount (He.ga K "is_amount") disuamount := Fisuamount
  have bisuamount : Binds K disuamount ["value"] [] := Fisuamount.bindsN fun _ _ _ _ _ _ us hl => match us, hl with | [_], _ => rfl
  have gisuamount : mg "is_amount" = some (.ref (He.ga K "is_amount")) := gl _ (by simp [gloNames])
  have HAm : Fn0 P w K mg base 7 "is_amount" ["value"] spAmt := ⟨⟨_, disuamount, gisuamount, Fisuamount.kp, bisuamount, ok_amt R HQ HO Fisuamount⟩⟩
  obtain ⟨iK, IK⟩ := sd.def_ 13
  replace IK : DefAt K "__init__" "Keeper.__init__" sKInit (He.ma K (He.ga K "Keeper") "__init__") iK := IK
  have KC : KeepC K (He.ga K "Keeper") := ⟨He.cls_ok fa.kc_, He.noat_ok fa.k1_, He.noat_ok fa.k2_, He.noat_ok fa.k3_⟩
  have HK : HasKeep P w K mg base (He.ga K "Keeper") := ⟨gl _ (by simp [gloNames]), ⟨_, He.mkr_ok fa.kr_, ok_kinit G G2 KC HN HAm HNs HTw HO IK⟩⟩
  obtain ⟨dulawuhaul, Fulawuhaul⟩ := sd.def_ 30
  replace Fulawuhaul : DefAt K "_law_haul" "_law_haul" sHaul (He.ga K "_law_haul") dulawuhaul := Fulawuhaul
  have bulawuhaul : Binds K dulawuhaul ["_law_crate_here", "_law_many"] [] := Fulawuhaul.bindsN fun _ _ _ _ _ _ us hl => match us, hl with | [_, _], _ => rfl
  have gulawuhaul : mg "_law_haul" = some (.ref (He.ga K "_law_haul")) := gl _ (by simp [gloNames])
  have HH : HasHaul P w K mg base := ⟨⟨_, dulawuhaul, gulawuhaul, Fulawuhaul.kp, bulawuhaul, ok_dip Fulawuhaul⟩⟩
  obtain ⟨dulawucrate, Fulawucrate⟩ := sd.def_ 29
  replace Fulawucrate : DefAt K "_law_crate" "_law_crate" sCrate (He.ga K "_law_crate") dulawucrate := Fulawucrate
  have bulawucrate : Binds K dulawucrate ["_law_script"] [] := Fulawucrate.bindsN fun _ _ _ _ _ _ us hl => match us, hl with | [_], _ => rfl
  have gulawucrate : mg "_law_crate" = some (.ref (He.ga K "_law_crate")) := gl _ (by simp [gloNames])
  have HC : Fn0 P w K mg base 1 "_law_crate" ["_law_script"] (spPail K) := ⟨⟨_, dulawucrate, gulawucrate, Fulawucrate.kp, bulawucrate, ok_pail G Fulawucrate⟩⟩
  obtain ⟨dulawuvalue, Fulawuvalue⟩ := sd.def_ 31
  replace Fulawuvalue : DefAt K "_law_value" "_law_value" sValue (He.ga K "_law_value") dulawuvalue := Fulawuvalue
  have bulawuvalue : Binds K dulawuvalue ["_law_crate_here", "_law_depth"] [] := Fulawuvalue.bindsN fun _ _ _ _ _ _ us hl => match us, hl with | [_, _], _ => rfl
  have gulawuvalue : mg "_law_value" = some (.ref (He.ga K "_law_value")) := gl _ (by simp [gloNames])
  have ov2 : FnOk P w K mg base CX0 7 (He.ga K "_law_value") dulawuvalue ["_law_crate_here", "_law_depth"] (spVal (rC K) 2) := ok_value G R MR HH Fulawuvalue gulawuvalue Fulawuvalue.kp bulawuvalue 2
  have FV2 : Fn0 P w K mg base 7 "_law_value" ["_law_crate_here", "_law_depth"] (spVal (rC K) 2) := ⟨⟨_, dulawuvalue, gulawuvalue, Fulawuvalue.kp, bulawuvalue, ov2⟩⟩
  have ov3 : FnOk P w K mg base CX0 8 (He.ga K "_law_value") dulawuvalue ["_law_crate_here", "_law_depth"] (spVal (rC K) 3) := ok_value G R MR HH Fulawuvalue gulawuvalue Fulawuvalue.kp bulawuvalue 3
  have FV3 : Fn0 P w K mg base 8 "_law_value" ["_law_crate_here", "_law_depth"] (spVal (rC K) 3) := ⟨⟨_, dulawuvalue, gulawuvalue, Fulawuvalue.kp, bulawuvalue, ov3⟩⟩
  have ov4 : FnOk P w K mg base CX0 9 (He.ga K "_law_value") dulawuvalue ["_law_crate_here", "_law_depth"] (spVal (rC K) 4) := ok_value G R MR HH Fulawuvalue gulawuvalue Fulawuvalue.kp bulawuvalue 4
  have FV4 : Fn0 P w K mg base 9 "_law_value" ["_law_crate_here", "_law_depth"] (spVal (rC K) 4) := ⟨⟨_, dulawuvalue, gulawuvalue, Fulawuvalue.kp, bulawuvalue, ov4⟩⟩
  obtain ⟨dulawufixed, Fulawufixed⟩ := sd.def_ 32
  replace Fulawufixed : DefAt K "_law_fixed" "_law_fixed" sLFixed (He.ga K "_law_fixed") dulawufixed := Fulawufixed
  have bulawufixed : Binds K dulawufixed ["_law_value_here"] [] := Fulawufixed.bindsN fun _ _ _ _ _ _ us hl => match us, hl with | [_], _ => rfl
  have gulawufixed : mg "_law_fixed" = some (.ref (He.ga K "_law_fixed")) := gl _ (by simp [gloNames])
  have okL : FnOk P w K mg base CX0 11 (He.ga K "_law_fixed") dulawufixed ["_law_value_here"] (spFix (rC K) 9) := ok_lfixed G G2 R RX Fulawufixed gulawufixed Fulawufixed.kp bulawufixed 9
  have FL : Fn0 P w K mg base 11 "_law_fixed" ["_law_value_here"] (spFix (rC K) 9) := ⟨⟨_, dulawufixed, gulawufixed, Fulawufixed.kp, bulawufixed, okL⟩⟩
  obtain ⟨dulawusame, Fulawusame⟩ := sd.def_ 33
  replace Fulawusame : DefAt K "_law_same" "_law_same" sSame (He.ga K "_law_same") dulawusame := Fulawusame
  have bulawusame : Binds K dulawusame ["_law_told", "_law_due"] [] := Fulawusame.bindsN fun _ _ _ _ _ _ us hl => match us, hl with | [_, _], _ => rfl
  have gulawusame : mg "_law_same" = some (.ref (He.ga K "_law_same")) := gl _ (by simp [gloNames])
  have okS : FnOk P w K mg base CX0 17 (He.ga K "_law_same") dulawusame ["_law_told", "_law_due"] (spSame (rC K) 10) := ok_same G G2 R RX gR HRp Fulawusame gulawusame Fulawusame.kp bulawusame 10
  have FS : Fn0 P w K mg base 17 "_law_same" ["_law_told", "_law_due"] (spSame (rC K) 10) := ⟨⟨_, dulawusame, gulawusame, Fulawusame.kp, bulawusame, okS⟩⟩
  obtain ⟨dulawuspoil, Fulawuspoil⟩ := sd.def_ 34
  replace Fulawuspoil : DefAt K "_law_spoil" "_law_spoil" sSpoil (He.ga K "_law_spoil") dulawuspoil := Fulawuspoil
  have bulawuspoil : Binds K dulawuspoil ["_law_value_here"] [] := Fulawuspoil.bindsN fun _ _ _ _ _ _ us hl => match us, hl with | [_], _ => rfl
  have gulawuspoil : mg "_law_spoil" = some (.ref (He.ga K "_law_spoil")) := gl _ (by simp [gloNames])
  have FO : Fn0 P w K mg base 1 "_law_spoil" ["_law_value_here"] (spSpoil (rC K) K) := ⟨⟨_, dulawuspoil, gulawuspoil, Fulawuspoil.kp, bulawuspoil, ok_spoil G G2 Fulawuspoil⟩⟩
  obtain ⟨dulawupaper, Fulawupaper⟩ := sd.def_ 35
  replace Fulawupaper : DefAt K "_law_paper" "_law_paper" sPaper (He.ga K "_law_paper") dulawupaper := Fulawupaper
  have bulawupaper : Binds K dulawupaper ["_law_kind", "_law_word", "_law_parts"] [] := Fulawupaper.bindsN fun _ _ _ _ _ _ us hl => match us, hl with | [_, _, _], _ => rfl
  have gulawupaper : mg "_law_paper" = some (.ref (He.ga K "_law_paper")) := gl _ (by simp [gloNames])
  have FP : Fn0 P w K mg base 14 "_law_paper" ["_law_kind", "_law_word", "_law_parts"] (spMkP (rC K) (He.ga K "Paper") (He.ga K "Denial")) := ⟨⟨_, dulawupaper, gulawupaper, Fulawupaper.kp, bulawupaper, ok_mkp G HPPaper HPDenial Fulawupaper⟩⟩
  obtain ⟨dulawuturned, Fulawuturned⟩ := sd.def_ 36
  replace Fulawuturned : DefAt K "_law_turned" "_law_turned" sTurned (He.ga K "_law_turned") dulawuturned := Fulawuturned
  have bulawuturned : Binds K dulawuturned ["_law_value_here"] [] := Fulawuturned.bindsN fun _ _ _ _ _ _ us hl => match us, hl with | [_], _ => rfl
  have gulawuturned : mg "_law_turned" = some (.ref (He.ga K "_law_turned")) := gl _ (by simp [gloNames])
  have FT : Fn0 P w K mg base 1 "_law_turned" ["_law_value_here"] (spTurn (rC K) 3) := ⟨⟨_, dulawuturned, gulawuturned, Fulawuturned.kp, bulawuturned, ok_turn G G2 R RX Fulawuturned⟩⟩
  have nd : ∀ {x y : Addr}, (!decide (x = y)) = true → x ≠ y := fun h => of_decide_eq_false (by simpa using h)
  have cPD : Cmp K (He.ga K "Paper") (He.ga K "Denial") := ⟨nd (He.ba fa.cPD_).2, .inr (of_decide_eq_true (He.ba fa.cPD_).1)⟩
  have cDP : Cmp K (He.ga K "Denial") (He.ga K "Paper") := ⟨(nd (He.ba fa.cPD_).2).symm, .inl fa.cDP_⟩
  have cGA : Cmp K (He.ga K "Good") (He.ga K "Parted") := ⟨nd (He.ba fa.cGA_).2, .inl (He.ba fa.cGA_).1⟩
  have cPG : Cmp K (He.ga K "Paper") (He.ga K "Good") := ⟨nd (He.ba fa.cPG_).2, .inr (of_decide_eq_true (He.ba fa.cPG_).1)⟩
  have kT : ∀ H a dx fs, H a = some (.ins (He.ga K "Keeper") dx fs) → TyOf K H (.ref a) (.ref (He.ga K "Keeper")) := fun H a dx fs h => .ins h KC.cl (ha "Keeper" (by simp)) hn ht (hm "Keeper" (by simp))
  have KF : KinF P w K mg base (rC K) (He.ga K "Paper") (He.ga K "Denial") (He.ga K "Keeper") (He.ga K "Least") (He.ga K "Good") (He.ga K "Stuck") (He.ga K "Never") (He.ga K "Parted") (He.ga K "Together") := ⟨alPaper, alLeast, alGood, alStuck, alNever, alParted, alTogether, cGA, cPG, boLeast, boGood, boStuck, boNever, boParted, boTogether, of_decide_eq_true fa.isS_, of_decide_eq_true fa.isG_, kT, fa.km_, nd fa.kn_, fa.kf_⟩
  obtain ⟨dulawupapersuright, Fulawupapersuright⟩ := sd.def_ 37
  replace Fulawupapersuright : DefAt K "_law_papers_right" "_law_papers_right" sPapersRight (He.ga K "_law_papers_right") dulawupapersuright := Fulawupapersuright
  have bulawupapersuright : Binds K dulawupapersuright ["_law_crate_here"] [] := Fulawupapersuright.bindsN fun _ _ _ _ _ _ us hl => match us, hl with | [_], _ => rfl
  have gulawupapersuright : mg "_law_papers_right" = some (.ref (He.ga K "_law_papers_right")) := gl _ (by simp [gloNames])
  have H2 : Fn0 P w K mg base 19 "_law_papers_right" ["_law_crate_here"] (spRight (rC K) 400) := ⟨⟨_, dulawupapersuright, gulawupapersuright, Fulawupapersuright.kp, bulawupapersuright, ok_papers G R RX HH FV3 FL FP FT FS FO alPaper alDenial boPaper boDenial cPD cDP Fulawupapersuright⟩⟩
  obtain ⟨dulawufixeduright, Fulawufixeduright⟩ := sd.def_ 38
  replace Fulawufixeduright : DefAt K "_law_fixed_right" "_law_fixed_right" sFixedRight (He.ga K "_law_fixed_right") dulawufixeduright := Fulawufixeduright
  have bulawufixeduright : Binds K dulawufixeduright ["_law_crate_here"] [] := Fulawufixeduright.bindsN fun _ _ _ _ _ _ us hl => match us, hl with | [_], _ => rfl
  have gulawufixeduright : mg "_law_fixed_right" = some (.ref (He.ga K "_law_fixed_right")) := gl _ (by simp [gloNames])
  have H1 : Fn0 P w K mg base 19 "_law_fixed_right" ["_law_crate_here"] (spRight (rC K) 400) := ⟨⟨_, dulawufixeduright, gulawufixeduright, Fulawufixeduright.kp, bulawufixeduright, ok_fixr G HRp FV4 FL FX FS Fulawufixeduright⟩⟩
  obtain ⟨dulawukindsuright, Fulawukindsuright⟩ := sd.def_ 39
  replace Fulawukindsuright : DefAt K "_law_kinds_right" "_law_kinds_right" sKindsRight (He.ga K "_law_kinds_right") dulawukindsuright := Fulawukindsuright
  have bulawukindsuright : Binds K dulawukindsuright ["_law_crate_here"] [] := Fulawukindsuright.bindsN fun _ _ _ _ _ _ us hl => match us, hl with | [_], _ => rfl
  have gulawukindsuright : mg "_law_kinds_right" = some (.ref (He.ga K "_law_kinds_right")) := gl _ (by simp [gloNames])
  have H3 : Fn0 P w K mg base 19 "_law_kinds_right" ["_law_crate_here"] (spRight (rC K) 200) := ⟨⟨_, dulawukindsuright, gulawukindsuright, Fulawukindsuright.kp, bulawukindsuright, ok_kinds G R FV2 FL FS HPPaper (gl _ (by simp [gloNames])) HLeast HGood HStuck HNever HParted HTogether HK KF Fulawukindsuright⟩⟩
  obtain ⟨dlaw, Flaw⟩ := sd.def_ 40
  replace Flaw : DefAt K "law" "law" sLaw (He.ga K "law") dlaw := Flaw
  have blaw : Binds K dlaw ["_law_script"] [] := Flaw.bindsN fun _ _ _ _ _ _ us hl => match us, hl with | [_], _ => rfl
  have glaw : mg "law" = some (.ref (He.ga K "law")) := gl _ (by simp [gloNames])
  exact ⟨dlaw, Flaw, ok_law G MR HPPaper alPaper HC H1 H2 H3 Flaw⟩
end
end K2

namespace K2
open PySem PySem.Spec PyProof.Rows L2 K1 LamX
theorem factAll_ok {K : PySem.W.Frag} (h : factAll K = true) : Facts K := by
  obtain ⟨a0, h⟩ := He.ba h
  obtain ⟨a1, h⟩ := He.ba h
  obtain ⟨a2, h⟩ := He.ba h
  obtain ⟨a3, h⟩ := He.ba h
  obtain ⟨a4, h⟩ := He.ba h
  obtain ⟨a5, h⟩ := He.ba h
  obtain ⟨a6, h⟩ := He.ba h
  obtain ⟨a7, h⟩ := He.ba h
  obtain ⟨a8, h⟩ := He.ba h
  obtain ⟨a9, a10⟩ := He.ba h
  exact facts_of a0 a1 a2 a3 a4 a5 a6 a7 a8 a9 a10
/-- what the opened module tells, of its objects -/
def Told1 (h : Heap) : Prop := ∃ K : PySem.W.Frag, K.In h ∧ Facts K ∧ He5.SaysA [] fns K
theorem told1_of {h : Heap} (e1 : factAll (He.frT h.get? adl) = true) (e2 : He5.obsA [] fns (He.frT h.get? adl) = He5.valA fns) : Told1 h := ⟨_, He.frT_in, factAll_ok e1, e2⟩
def hk : PySem.W.Hook where
  α := Bool × He.AlD
  obs := fun s => (factAll (He.frT s.heap.get? adl), He5.obsA [] fns (He.frT s.heap.get? adl))
  val := fun _ => (true, He5.valA fns)
  says := fun _ h => Told1 h
  of := fun _ _ e => told1_of (congrArg (fun z : Bool × He.AlD => z.1) e) (congrArg (fun z : Bool × He.AlD => z.2) e)
  keeps := fun _ _ _ ⟨K, hK, c1, c2⟩ k => ⟨K, PySem.W.Frag.In.keeps hK k, c1, c2⟩
def ob (s : PySem.W.SharedT) : Bool × He.AlD := (factAll (oF s), He5.obsA [] fns (oF s))
theorem ob_eq (s : PySem.W.SharedT) : ob s = hk.obs s.abs := by
  have e : HandSHeadRun.getT s = s.abs.heap.get? := funext (HandSHeadRun.getT_eq s)
  unfold ob oF
  rw [e]
  rfl
theorem run (w : World) : HandSHeadRun.RunEqI R (PySem.W.view R.prog [0, 54]) hk ob 40000 loose w := by
  have a1 := runA1 w
  have a2 := runA2 w
  have b0 := runB0 w
  have b1 := runB1 w
  have b2 := runB2 w
  have b3 := runB3 w
  have b4 := runB4 w
  have b5 := runB5 w
  have b6 := runB6 w
  have b7 := runB7 w
  have b8 := runB8 w
  have b9 := runB9 w
  have b10 := runB10 w
  have d := runD w
  obtain ⟨x, hx, e1⟩ := Option.map_eq_some_iff.mp a1
  rw [hx] at a2 b0 b1 b2 b3 b4 b5 b6 b7 b8 b9 b10 d
  have e2 := Option.some.inj a2
  have e3 : factAll (oF x.2) = true := by
    have ab : ∀ {a b : Bool}, a = true → b = true → (a && b) = true := fun x y => by rw [x, y]; rfl
    exact (ab (Option.some.inj b0) (ab (Option.some.inj b1) (ab (Option.some.inj b2) (ab (Option.some.inj b3) (ab (Option.some.inj b4) (ab (Option.some.inj b5) (ab (Option.some.inj b6) (ab (Option.some.inj b7) (ab (Option.some.inj b8) (ab (Option.some.inj b9) (Option.some.inj b10)))))))))))
  have e4 := Option.some.inj d
  unfold HandSHeadRun.RunEqI
  show (wf w).map _ = _
  rw [hx]
  refine congrArg some (Prod.ext e1 (Prod.ext e2 ?_))
  exact Prod.ext e3 e4
/-- the walk's end, no table -/
theorem walkT {l : PySem.W.OpenLaw} {n k : Nat} {q : Program} {loose : List Str} {XP : (Str → Option Value) → Heap → Prop} {YP : World → Heap → Prop} {d : DefRec} {x : Str}
    (m1 : l.most = some n) (m2 : n ≤ sizeLine) (m3 : d.params.defaults = []) (m4 : Room k callerA)
    (F : ∀ (w : World) (mg : Str → Option Value) (fa : Addr) (h : Heap), YP w h → h.Ns mainGlobals mg → mg d.name = some (.ref fa) →
      ∃ (K : PySem.W.Frag) (fd : FuncData) (sp : Sp), K.In h ∧ (∀ (s : Shared) (u : Value), BindsTo s fd ⟨[u], []⟩ [(x, u)]) ∧
        (∀ (H : Hp) (a : Addr) (ns : List Int), ns.length ≤ n → SqL K H a (ns.map V.int) → sp [.ref a] H (fun v _ => v = .bl true) fun _ _ _ => False) ∧
        ∀ base : Heap, K.In base → base.Ns mainGlobals mg → FnOk l.prog w K mg base CX0 k fa fd [x] sp) :
    PySem.W.WalkO q loose XP YP l.row.toRowW d [] (fun f vs => PySem.call f vs) := by
  refine Att.attach_call m1 m3 fun w u0 u1 mg mb fa ob pm cd doc aa vs ns GG YY g1 g2 g3 g4 g5 g6 g7 g8 => ?_
  obtain ⟨K, fd, sp, k1, k5, k6, k7⟩ := F w mg fa _ YY GG.T.g g4
  refine law_callTs (cs := []) k1 GG.T.g GG.T.b GG.T.builtins GG.T.nolimit g8 (fun p hp => nomatch hp) (fun p hp => nomatch hp) (fun p hp => nomatch hp) GG.T.bmain g5 g6 (Nat.le_trans g7 m2) m4 (fun bb b1 b2 b3 => k7 bb b1 b2) k5 (fun HH tt ss => k6 HH aa ns g7 ss) fun _ _ _ z => z.elim
theorem ends {l : PySem.W.OpenLaw} {w : World} {mg : Str → Option Value} {fa : Addr} {h : Heap} (t : Told1 h) (Nh : h.Ns mainGlobals mg) (em : mg ("law" : Str) = some (.ref fa)) :
    ∃ (K : PySem.W.Frag) (fd : FuncData) (sp : Sp), K.In h ∧ (∀ (s : Shared) (u : Value), BindsTo s fd ⟨[u], []⟩ [("_law_script", u)]) ∧
        (∀ (H : Hp) (a : Addr) (ns : List Int), ns.length ≤ 63 → SqL K H a (ns.map V.int) → sp [.ref a] H (fun v _ => v = .bl true) fun _ _ _ => False) ∧
        ∀ base : Heap, K.In base → base.Ns mainGlobals mg → FnOk l.prog w K mg base CX0 20 fa fd ["_law_script"] sp := by
  obtain ⟨K, c1, c2, c3⟩ := t
  have eg : mg ("law" : Str) = some (.ref (He.ga K "law")) := PySem.W.mg_of c1 Nh (He.eqO_ok (List.all_eq_true.mp c2.glo_ "law" (by simp [gloNames])))
  obtain rfl : He.ga K "law" = fa := by
    rw [eg] at em
    exact Value.ref.inj (Option.some.inj em)
  obtain ⟨fd, FL⟩ := c3.def_ 40
  replace FL : DefAt K "law" "law" sLaw (He.ga K "law") fd := FL
  have bL := FunD.bindsA (ps := ["_law_script"]) FL fun _ _ _ _ _ _ us hl => match us, hl with | [_], _ => rfl
  refine ⟨K, fd, spLaw K, c1, fun s u => bL s [u] rfl, fun H a ns z1 z3 => ⟨a, ns, rfl, z3, z1, fun _ => rfl⟩, fun base XB NB => ?_⟩
  obtain ⟨fd2, FL2, ok⟩ := law_in (P := l.prog) (w := w) XB NB c2 c3
  obtain ⟨oc, od, dV, kV, doc, pm, an, cdv, ct, osl, e1, l1, _⟩ := FL.ex
  obtain ⟨oc2, od2, dV2, kV2, doc2, pm2, an2, cdv2, ct2, osl2, e2, l2, _⟩ := FL2.ex
  have e3 : fd2 = fd := by
    rw [l1] at l2
    injection l2 with l2
    injection l2 with _ _ l3 _
    injection l3 with l3
    exact l3.symm
  rw [← e3]
  exact ok
end K2
open PySem PySem.W PySem.Calls PyProof.Rows
theorem PySem.Challenge.cw_lastgiver_k02_papers_keep_what_they_tell_holds : PySem.Challenge.rw_lastgiver_k02_papers_keep_what_they_tell.Holds := by
  w_on; o_law
  refine HandSHeadRun.head_imp (r := K2.R) (q := view K2.R.prog [0, 54]) (H := K2.hk) (ob := K2.ob) (M := 40000) (loose := K2.loose) (d := HandSHeadRun.topDef K2.R.prog 54) (kwd := []) K2.ob_eq
    K2.run (by kernel_rfl) (by kernel_rfl) (by kernel_rfl) (by rfl) (by first | assumption | decide +kernel) (by decide +kernel) ⟨rfl, rfl, rfl, rfl, rfl, by decide +kernel⟩ ?hw ?hc
  case hw => w_witness2
  case hc =>
    refine K2.walkT (l := PySem.Challenge.rw_lastgiver_k02_papers_keep_what_they_tell) (n := 63) (k := 20) (x := "_law_script") rfl (by decide) (by kernel_rfl) ⟨rfl, by decide, by decide⟩ ?F
    intro w mg fa h Y Nh em
    have en : (HandSHeadRun.topDef K2.R.prog 54).name = ("law" : PySem.Str) := by kernel_rfl
    rw [en] at em
    exact K2.ends (l := PySem.Challenge.rw_lastgiver_k02_papers_keep_what_they_tell) Y Nh em
