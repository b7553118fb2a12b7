import PyProof.Rows.All
import Wide.All
import OpenK.AllK
import Wide.FinOn
import KE.KOpsOwn
import HandS.ForMost
import HandS.ForExc
import HandS.Property
import HandS.ClsMeth
import KE.KCallOwn
import HandS.HeadNt
import HandS.Lambda
import HandS.ExcInit
import HandS.ExcField
import HandS.Wide
import HandS.Style
import HandS.IsInst
import HandS.Text
import HandS.Defaults
import HandS.TupSets
import HandS.SetBool
import HandS.Strs
import HandS.TryMany
import HandS.ExcIs
import HandS.Nested
import HandS.Gcd
import HandS.Star
import HandS.MethStar
import HandS.Conv
import KE.KExcIs
import HandS.SortInts
import PyProof.TupleOfSeq
import HandS.ExcValue
import HandS.Walk
import HandS.Codes
import OpenK.KMeth
import PyProof.InstEq
import PyProof.EqKinds
import HandS.TupAny
import HandS.Zip
import HandS.More
import HandS.Dict
import HandS.Head0
import HandS.Head1
import HandS.Head2
import HandS.Head3
import HandS.HeadHook1
import HandS.HeadHook2
import HandS.HeadHook4
import HandS.EndTab
import KE.KStateDown
import Lean
import PySem.Challenge.RW_lastgiver_k05_handed_back_one_after_port
set_option Elab.async false
set_option linter.all false
set_option maxRecDepth 100000
set_option maxHeartbeats 0
namespace K1
end K1
namespace K18
end K18
namespace K5
end K5
namespace K18
open PySem PySem.Spec PyProof.Rows L2 LamX K1
def top (i : Nat) : Stmt := PySem.Challenge.pw_lastgiver_k05_handed_back_one_after_port.main.body.getD i (.Pass ⟨0, 0, 0, 0⟩)
end K18
namespace K18
open PySem PySem.Spec PyProof.Rows L2 LamX K1
abbrev sIsInt : Stmt := top 21
end K18
namespace K18
open PySem PySem.Spec PyProof.Rows L2 LamX K1
abbrev sWithin : Stmt := top 22
end K18
namespace K18
open PySem PySem.Spec PyProof.Rows L2 LamX K1
abbrev sName : Stmt := top 23
end K18
namespace K18
open PySem PySem.Spec PyProof.Rows L2 LamX K1
abbrev sListed : Stmt := top 24
end K18
namespace K18
open PySem PySem.Spec PyProof.Rows L2 LamX K1
abbrev sAreInts : Stmt := top 25
end K18
namespace K18
open PySem PySem.Spec PyProof.Rows L2 LamX K1
abbrev sAreNames : Stmt := top 26
end K18
namespace K18
open PySem PySem.Spec PyProof.Rows L2 LamX K1
abbrev sNoneTwice : Stmt := top 27
end K18
namespace K18
open PySem PySem.Spec PyProof.Rows L2 LamX K1
abbrev sHands : Stmt := top 28
end K18
namespace K18
open PySem PySem.Spec PyProof.Rows L2 LamX K1
abbrev sDone : Stmt := top 29
end K18
namespace K18
open PySem PySem.Spec PyProof.Rows L2 LamX K1
abbrev sHand : Stmt := top 30
end K18
namespace K18
open PySem PySem.Spec PyProof.Rows L2 LamX K1
abbrev sRight : Stmt := top 37
end K18
namespace K18
open PySem PySem.Spec PyProof.Rows L2 LamX K1
abbrev sIsRatio : Stmt := top 38
end K18
namespace K18
open PySem PySem.Spec PyProof.Rows L2 LamX K1
abbrev sIsAmount : Stmt := top 39
end K18
namespace K18
open PySem PySem.Spec PyProof.Rows L2 LamX K1
abbrev sAdded : Stmt := top 40
end K18
namespace K18
open PySem PySem.Spec PyProof.Rows L2 LamX K1
abbrev sAreRatios : Stmt := top 41
end K18
namespace K18
open PySem PySem.Spec PyProof.Rows L2 LamX K1
abbrev sCheckSwap : Stmt := top 47
end K18
namespace K18
open PySem PySem.Spec PyProof.Rows L2 LamX K1
abbrev sParties : Stmt := top 48
end K18
namespace K18
open PySem PySem.Spec PyProof.Rows L2 LamX K1
abbrev sNetOf : Stmt := top 49
end K18
namespace K18
open PySem PySem.Spec PyProof.Rows L2 LamX K1
abbrev sDoneSet : Stmt := top 56
end K18
namespace K18
open PySem PySem.Spec PyProof.Rows L2 LamX K1
abbrev sSums : Stmt := top 57
end K18
namespace K18
open PySem PySem.Spec PyProof.Rows L2 LamX K1
abbrev sEffects : Stmt := top 58
end K18
namespace K18
open PySem PySem.Spec PyProof.Rows L2 LamX K1
abbrev sBack : Stmt := top 60
end K18
namespace K18
open PySem PySem.Spec PyProof.Rows L2 LamX K1
abbrev sOneAfter : Stmt := top 61
end K18
namespace K18
open PySem PySem.Spec PyProof.Rows L2 LamX K1
abbrev sPortion : Stmt := top 62
end K18
namespace K18
open PySem PySem.Spec PyProof.Rows L2 LamX K1
abbrev sPen : Stmt := top 64
end K18
namespace K18
open PySem PySem.Spec PyProof.Rows L2 LamX K1
abbrev sDraw : Stmt := top 65
end K18
namespace K18
open PySem PySem.Spec PyProof.Rows L2 LamX K1
abbrev sPick : Stmt := top 66
end K18
namespace K18
open PySem PySem.Spec PyProof.Rows L2 LamX K1
abbrev sNames : Stmt := top 67
end K18
namespace K18
open PySem PySem.Spec PyProof.Rows L2 LamX K1
abbrev sRows : Stmt := top 68
end K18
namespace K18
open PySem PySem.Spec PyProof.Rows L2 LamX K1
abbrev sWorth : Stmt := top 69
end K18
namespace K18
open PySem PySem.Spec PyProof.Rows L2 LamX K1
abbrev sHandsL : Stmt := top 70
end K18
namespace K18
open PySem PySem.Spec PyProof.Rows L2 LamX K1
abbrev sLine : Stmt := top 71
end K18
namespace K18
open PySem PySem.Spec PyProof.Rows L2 LamX K1
abbrev sIs : Stmt := top 72
end K18
namespace K18
open PySem PySem.Spec PyProof.Rows L2 LamX K1
abbrev sIsLine : Stmt := top 73
end K18
namespace K18
open PySem PySem.Spec PyProof.Rows L2 LamX K1
abbrev sHas : Stmt := top 74
end K18
namespace K18
open PySem PySem.Spec PyProof.Rows L2 LamX K1
abbrev sLBack : Stmt := top 75
end K18
namespace K18
open PySem PySem.Spec PyProof.Rows L2 LamX K1
abbrev sBackRight : Stmt := top 76
end K18
namespace K18
open PySem PySem.Spec PyProof.Rows L2 LamX K1
abbrev sPortionRight : Stmt := top 77
end K18
namespace K18
open PySem PySem.Spec PyProof.Rows L2 LamX K1
abbrev sHeard : Stmt := top 78
end K18
namespace K18
open PySem PySem.Spec PyProof.Rows L2 LamX K1
abbrev sRefused : Stmt := top 79
end K18
namespace K18
open PySem PySem.Spec PyProof.Rows L2 LamX K1
abbrev sLaw : Stmt := top 80
end K18
namespace K18
open PySem PySem.Spec PyProof.Rows L2 LamX K1
abbrev sRInit : Stmt := inClass (top 36) 0
end K18
namespace K18
open PySem PySem.Spec PyProof.Rows L2 LamX K1
abbrev sRSign : Stmt := inClass (top 36) 1
end K18
namespace K18
open PySem PySem.Spec PyProof.Rows L2 LamX K1
abbrev sRAdd : Stmt := inClass (top 36) 3
end K18
namespace K18
open PySem PySem.Spec PyProof.Rows L2 LamX K1
abbrev sRNeg : Stmt := inClass (top 36) 6
end K18
namespace K18
open PySem PySem.Spec PyProof.Rows L2 LamX K1
abbrev sREq : Stmt := inClass (top 36) 9
end K18
namespace K18
open PySem PySem.Spec PyProof.Rows L2 LamX K1
abbrev sROf : Stmt := inClass (top 36) 16
end K18
namespace K18
open PySem PySem.Spec PyProof.Rows L2 LamX K1
abbrev sHInit : Stmt := inClass (top 45) 0
end K18
namespace K18
open PySem PySem.Spec PyProof.Rows L2 LamX K1
abbrev sHRet : Stmt := inClass (top 45) 1
end K18
namespace K18
open PySem PySem.Spec PyProof.Rows L2 LamX K1
abbrev sHEff : Stmt := inClass (top 45) 2
end K18
namespace K18
open PySem PySem.Spec PyProof.Rows L2 LamX K1
abbrev sHEq : Stmt := inClass (top 45) 3
end K18
namespace K18
open PySem PySem.Spec PyProof.Rows L2 LamX K1
abbrev sSInit : Stmt := inClass (top 46) 2
end K18
namespace K18
open PySem PySem.Spec PyProof.Rows L2 LamX K1
abbrev sSLen : Stmt := inClass (top 46) 7
end K18
namespace K18
open PySem PySem.Spec PyProof.Rows L2 LamX K1
abbrev sSIter : Stmt := inClass (top 46) 8
end K18
namespace K18
open PySem PySem.Spec PyProof.Rows L2 LamX K1
abbrev sSItem : Stmt := inClass (top 46) 9
end K18
namespace K18
open PySem PySem.Spec PyProof.Rows L2 LamX K1
abbrev sSEq : Stmt := inClass (top 46) 11
end K18
namespace K18
open PySem PySem.Spec PyProof.Rows L2 LamX K1
abbrev sSNeg : Stmt := inClass (top 46) 12
end K18
namespace K18
open PySem PySem.Spec PyProof.Rows L2 LamX K1
abbrev sSAdd : Stmt := inClass (top 46) 13
end K18
namespace K18
open PySem PySem.Spec PyProof.Rows L2 LamX K1
abbrev sIni (k : Nat) : Stmt := inClass (top k) 0
end K18
namespace K5
open PySem PySem.Spec PyProof.Rows L2 LamX K1 K18
def oddT : List String := ["NoneType", "list", "str", "int", "tuple", "bool"]
end K5
namespace K5
open PySem PySem.Spec PyProof.Rows L2 LamX K1 K18
abbrev rC (K : PySem.W.Frag) : Addr := He.ga K "Ratio"
end K5
namespace K5
open PySem PySem.Spec PyProof.Rows L2 LamX K1 K18
abbrev sC (K : PySem.W.Frag) : Addr := He.ga K "Swap"
end K5
namespace K5
open PySem PySem.Spec PyProof.Rows L2 LamX K1 K18
/-- the code object of the def with lambdas, its table -/
abbrev cR (K : PySem.W.Frag) : Addr := He.codeOf K ("_law_refused_right", none)
end K5
namespace K5
open PySem PySem.Spec PyProof.Rows L2 LamX K1 K18
abbrev tR (K : PySem.W.Frag) : Addr := He.tabOf K (cR K)
end K5
namespace K5
open PySem PySem.Spec PyProof.Rows L2 LamX K1 K18
/-- the getter of a property -/
def gP (K : PySem.W.Frag) (m : Str) : Addr := match PySem.W.recIn K (He.ma K (rC K) m) "property" with
  | some (.ref f :: _) => f
  | _ => 0
end K5
namespace K5
open PySem PySem.Spec PyProof.Rows L2 LamX K1 K18
def propB (K : PySem.W.Frag) (m : Str) : Bool := He.eqO (PySem.W.findIn K (.ref (rC K)) m) (some (some (.ref (He.ma K (rC K) m)))) && (He.eqO (PySem.W.specialIn K (.ref (He.ma K (rC K) m)) "__get__") (some (some (.builtin "property.__get__"))) &&
  (decide (PySem.W.takesIn K (.ref (He.ma K (rC K) m)) = some true) && (match PySem.W.recIn K (He.ma K (rC K) m) "property" with
    | some (.ref _ :: _) => true
    | _ => false)))
end K5
namespace K5
open PySem PySem.Spec PyProof.Rows L2 LamX K1 K18
def ownB (K : PySem.W.Frag) (x m : Str) : Bool := He.eqO (PySem.W.findIn K (.ref (He.ga K x)) m) (some (some (.ref (He.ma K (He.ga K x) m)))) && PySem.W.isFn K (.ref (He.ma K (He.ga K x) m))
end K5
namespace K5
open PySem PySem.Spec PyProof.Rows L2 LamX K1 K18
def opB (K : PySem.W.Frag) (T : String) : Bool := (PySem.W.findIn K (.type T) (PySem.dunder Operator.Add.info.2)).isSome && ((PySem.W.findIn K (.type T) (dunderR Operator.Add.info.2)).isSome && decide (PySem.W.subIn K (.type T) (.ref (sC K)) = some false))
end K5
namespace K5
open PySem PySem.Spec PyProof.Rows L2 LamX K1 K18
/-- a constant of the class Swap -/
def cvB (K : PySem.W.Frag) (f : Str) (n : Int) : Bool := match PySem.W.findCls K (.ref (sC K)) (.type "type") f with
  | some (.val (.int j _)) => decide (j = n)
  | _ => false
end K5
namespace K5
open PySem PySem.Spec PyProof.Rows L2 LamX K1 K18
/-- all that one class is asked for -/
def clsB (K : PySem.W.Frag) (x : Str) : Bool := (He.Fa.cls x).ok K && ((He.Fa.mkr x).ok K && (He.eqO (PySem.W.findIn K (.ref (He.ga K x)) "__class__") (some (some (.builtin "object.__class__"))) && (decide (PySem.W.mroIn K (He.ga K x) (.type "object") = some true) && (decide (PySem.W.kitOne K (.ref (He.ga K x)) (.ref (He.ga K x)) = some true) &&
  (PySem.W.notFirst K (He.ga K x) (.ref (He.ga K x)) && (He.eqO (PySem.W.findIn K (.ref (He.ga K x)) "__ne__") (some (some (.builtin "object.__ne__"))) && decide (PySem.W.subIn K (.ref (He.ga K x)) (.type "object") = some true)))))))
end K5
namespace K5
open PySem PySem.Spec PyProof.Rows L2 LamX K1 K18
def freeNames : List Str := ["abs", "int", "len", "bool", "repr", "isinstance", "range", "all", "list", "tuple", "set", "sorted", "min", "max", "zip", "iter", "str"]
end K5
namespace K5
open PySem PySem.Spec PyProof.Rows L2 LamX K1 K18
def gloNames : List Str := (["LastError", "Ratio", "HandOver", "Swap", "BadSwap", "BadDone", "NoHand", "Twice", "Unlike", "TooMany", "is_integer", "is_within", "is_listed", "are_integers", "is_name", "are_names", "check_none_twice", "hands_told", "done_told", "check_hand"] : List Str) ++ ((["_right", "is_ratio", "is_amount", "_are_ratios", "added", "_check_parties", "_net_of", "check_swap", "done_set", "_effects_on", "sums", "handed_back", "one_after", "portion", "_law_pen", "_law_draw", "_law_pick", "_law_names", "_law_rows", "_law_worth"] : List Str) ++ (["_law_hands", "_law_line", "_law_is", "_law_is_line", "_law_has", "_law_back", "_law_back_right", "_law_portion_right", "_law_heard", "_law_refused_right", "law"] : List Str))
end K5
namespace K5
open PySem PySem.Spec PyProof.Rows L2 LamX K1 K18
def ownPairs : List (Str × Str) := [("Ratio", "__add__"), ("Ratio", "__neg__"), ("Ratio", "__eq__"), ("HandOver", "__eq__"), ("Swap", "__len__"), ("Swap", "__iter__"), ("Swap", "__getitem__"), ("Swap", "__eq__"), ("Swap", "__neg__"), ("Swap", "__add__")]
end K5
namespace K5
open PySem PySem.Spec PyProof.Rows L2 LamX K1 K18
def ktPairs : List (Str × Str × Bool) := [("BadSwap", "BadSwap", true), ("BadDone", "BadSwap", false), ("BadDone", "BadDone", true), ("NoHand", "BadSwap", false), ("NoHand", "BadDone", false), ("NoHand", "NoHand", true), ("Twice", "BadSwap", false), ("Twice", "BadDone", false), ("Twice", "NoHand", false), ("Twice", "Twice", true), ("Unlike", "BadSwap", false), ("Unlike", "BadDone", false), ("Unlike", "NoHand", false), ("Unlike", "Twice", false), ("Unlike", "Unlike", true), ("TooMany", "BadSwap", false), ("TooMany", "BadDone", false), ("TooMany", "NoHand", false), ("TooMany", "Twice", false), ("TooMany", "Unlike", false), ("TooMany", "TooMany", true)]
end K5
namespace K5
open PySem PySem.Spec PyProof.Rows L2 LamX K1 K18
def mroB (C : Addr) : List Value → Bool
  | .ref c :: bm => decide (c = C) && PySem.HandSPX.refsVE bm
  | _ => false
end K5
namespace K5
open PySem PySem.Spec PyProof.Rows L2 LamX K1 K18
/-- an error class: its object, its mro -/
def oexB (K : PySem.W.Frag) (C : Addr) : Bool := match K.lookup C with
  | some ⟨.type t, _, .cls cd, sl⟩ => t == "type" && ((match sl.toList with
    | [_, _, _, _, some (.builtin n), _] => n == "ValueError.__new__"
    | _ => false) && (!cd.hasDel && (cd.hasDict && mroB C cd.mro)))
  | _ => false
end K5
namespace K5
open PySem PySem.Spec PyProof.Rows L2 LamX K1 K18
/-- all that one error class is asked for -/
def errB (K : PySem.W.Frag) (x : Str) (fs : List Str) : Bool := oexB K (He.ga K x) && (He.eqO (PySem.W.findIn K (.ref (He.ga K x)) "__setattr__") (some (some (.builtin "object.__setattr__"))) && (decide (PySem.W.typeIn K (.ref (He.ga K x)) = some (.type "type")) && (PySem.W.keepIn K (.ref (He.ga K x)) && (xfB K (He.ga K x) &&
  (He.eqO (PySem.W.findIn K (.ref (He.ga K x)) "__init__") (some (some (.ref (He.ma K (He.ga K x) "__init__")))) && (decide (PySem.W.typeIn K (.ref (He.ma K (He.ga K x) "__init__")) = some (.type "function")) && (He.eqO (PySem.W.findIn K (.ref (He.ga K x)) "__class__") (some (some (.builtin "object.__class__"))) &&
  (decide (PySem.W.mroIn K (He.ga K x) (.type "object") = some true) && (decide (PySem.W.exmOne K (.ref (He.ga K x)) (.ref (He.ga K "LastError")) = some true) && fs.all fun f => He.eqO (PySem.W.findIn K (.ref (He.ga K x)) f) (some none))))))))))
end K5
namespace K5
open PySem PySem.Spec PyProof.Rows L2 LamX K1 K18
def factB0 (K : PySem.W.Frag) : Bool :=
  freeNames.all (fun x => He.eqO (PySem.W.nsIn K mainGlobals x) (some none)) && (He.eqO (PySem.W.nsIn K mainGlobals "gcd") (some (some (.builtin "math.gcd"))) && (gloNames.all (fun x => He.eqO (PySem.W.nsIn K mainGlobals x) (some (some (.ref (He.ga K x))))) && ((He.Fa.str "DIGITS" "0123456789").ok K && ((He.Fa.str "LETTERS" "abcdefghijklmnopqrstuvwxyz").ok K && ((He.Fa.int "MOST_SIGNS" 12).ok K && (He.eqO (PySem.W.specialIn K (.builtin "object.__class__") "__get__") (some (some (.builtin "getset_descriptor.__get__"))) && (decide (PySem.W.takesIn K (.builtin "object.__class__") = some true) && (clsB K "Ratio"))))))))
end K5
namespace K5
open PySem PySem.Spec PyProof.Rows L2 LamX K1 K18
def factB1 (K : PySem.W.Frag) : Bool :=
  clsB K "HandOver" && (clsB K "Swap" && ((He.Fa.noat "Ratio" "top").ok K && ((He.Fa.noat "Ratio" "bottom").ok K && ((He.Fa.noat "HandOver" "giver").ok K && ((He.Fa.noat "HandOver" "taker").ok K && ((He.Fa.noat "HandOver" "cost").ok K && ((He.Fa.noat "HandOver" "gain").ok K && ((He.Fa.noat "Swap" "strangers").ok K))))))))
end K5
namespace K5
open PySem PySem.Spec PyProof.Rows L2 LamX K1 K18
def factB2 (K : PySem.W.Frag) : Bool :=
  (He.Fa.noat "Swap" "hands").ok K && ((He.Fa.noat "Swap" "nets").ok K && (decide (PySem.W.kitOne K (.ref (rC K)) (.type "int") = some false) && (decide (PySem.W.kitOne K (.type "int") (.ref (rC K)) = some false) && (ownPairs.all (fun p => ownB K p.1 p.2) && ((["returned", "effect"] : List Str).all (fun m => (He.Fa.meth "HandOver" m).ok K) && (PySem.W.selfFirst K (rC K) && (He.eqO (PySem.W.findIn K (.ref (rC K)) (dunderR Operator.Add.info.2)) (some none) && (PySem.W.selfFirst K (sC K)))))))))
end K5
namespace K5
open PySem PySem.Spec PyProof.Rows L2 LamX K1 K18
def factB3 (K : PySem.W.Frag) : Bool :=
  He.eqO (PySem.W.findIn K (.ref (sC K)) (dunderR Operator.Add.info.2)) (some none) && (propB K "sign" && (PySem.W.readsIn K (rC K) (.type "type") && (He.eqO (PySem.W.specialIn K (.ref (rC K)) "__getattribute__") (some (some (.builtin "type.__getattribute__"))) && (He5.wrapB K (rC K) "staticmethod" "staticmethod.__get__" "of" && (PySem.W.readsIn K (sC K) (.type "type") && (He.eqO (PySem.W.specialIn K (.ref (sC K)) "__getattribute__") (some (some (.builtin "type.__getattribute__"))) && (cvB K "MOST_STRANGERS" 6 && (cvB K "MOST_HANDS" 40))))))))
end K5
namespace K5
open PySem PySem.Spec PyProof.Rows L2 LamX K1 K18
def factB4 (K : PySem.W.Frag) : Bool :=
  PySem.W.fnIn K (He.ma K (sC K) "__getitem__") && (oddT.all (fun t => decide (PySem.W.kitOne K (.type t) (.ref (sC K)) = some false)) && (oddT.all (fun t => opB K t) && (errB K "BadSwap" ["part"] && (errB K "BadDone" ["part"] && (errB K "NoHand" ["number"] && (errB K "Twice" ["value"] && (errB K "Unlike" ["what"] && (errB K "TooMany" ["what", "most"]))))))))
end K5
namespace K5
open PySem PySem.Spec PyProof.Rows L2 LamX K1 K18
def factB5 (K : PySem.W.Frag) : Bool :=
  ktPairs.all (fun p => decide (PySem.W.kitOne K (.ref (He.ga K p.1)) (.ref (He.ga K p.2.1)) = some p.2.2))
end K5
namespace K5
open PySem PySem.Spec PyProof.Rows L2 LamX K1 K18
def mkA (a : PySem.W.Frag → Addr) (name qual : Str) (st : Stmt) (dfl : List He.Dv := []) : He5.DefA := { at_ := a, name := name, qual := qual, params := defArgs st, body := defBody st, scope := defScope st, dfl := dfl }
end K5
namespace K5
open PySem PySem.Spec PyProof.Rows L2 LamX K1 K18
def topA (x : Str) (st : Stmt) : He5.DefA := mkA (fun K => He.ga K x) x x st
end K5
namespace K5
open PySem PySem.Spec PyProof.Rows L2 LamX K1 K18
def fns : List He5.DefA := [mkA (fun K => He.ma K (He.ga K "BadSwap") "__init__") "__init__" "BadSwap.__init__" (sIni 6),
  mkA (fun K => He.ma K (He.ga K "BadDone") "__init__") "__init__" "BadDone.__init__" (sIni 7),
  mkA (fun K => He.ma K (He.ga K "NoHand") "__init__") "__init__" "NoHand.__init__" (sIni 11),
  mkA (fun K => He.ma K (He.ga K "Twice") "__init__") "__init__" "Twice.__init__" (sIni 12),
  mkA (fun K => He.ma K (He.ga K "Unlike") "__init__") "__init__" "Unlike.__init__" (sIni 13),
  mkA (fun K => He.ma K (He.ga K "TooMany") "__init__") "__init__" "TooMany.__init__" (sIni 14),
  mkA (fun K => gP K "sign") "sign" "Ratio.sign" sRSign,
  mkA (fun K => He5.wf K (rC K) "staticmethod" "of") "of" "Ratio.of" sROf,
  mkA (fun K => He.ma K (He.ga K "Ratio") "__init__") "__init__" "Ratio.__init__" sRInit [.int 1],
  mkA (fun K => He.ma K (He.ga K "Ratio") "__add__") "__add__" "Ratio.__add__" sRAdd,
  mkA (fun K => He.ma K (He.ga K "Ratio") "__neg__") "__neg__" "Ratio.__neg__" sRNeg,
  mkA (fun K => He.ma K (He.ga K "Ratio") "__eq__") "__eq__" "Ratio.__eq__" sREq,
  mkA (fun K => He.ma K (He.ga K "HandOver") "__init__") "__init__" "HandOver.__init__" sHInit,
  mkA (fun K => He.ma K (He.ga K "HandOver") "returned") "returned" "HandOver.returned" sHRet,
  mkA (fun K => He.ma K (He.ga K "HandOver") "effect") "effect" "HandOver.effect" sHEff,
  mkA (fun K => He.ma K (He.ga K "HandOver") "__eq__") "__eq__" "HandOver.__eq__" sHEq,
  mkA (fun K => He.ma K (He.ga K "Swap") "__init__") "__init__" "Swap.__init__" sSInit,
  mkA (fun K => He.ma K (He.ga K "Swap") "__len__") "__len__" "Swap.__len__" sSLen,
  mkA (fun K => He.ma K (He.ga K "Swap") "__iter__") "__iter__" "Swap.__iter__" sSIter,
  mkA (fun K => He.ma K (He.ga K "Swap") "__getitem__") "__getitem__" "Swap.__getitem__" sSItem,
  mkA (fun K => He.ma K (He.ga K "Swap") "__eq__") "__eq__" "Swap.__eq__" sSEq,
  mkA (fun K => He.ma K (He.ga K "Swap") "__neg__") "__neg__" "Swap.__neg__" sSNeg,
  mkA (fun K => He.ma K (He.ga K "Swap") "__add__") "__add__" "Swap.__add__" sSAdd,
  topA "is_integer" sIsInt,
  topA "is_within" sWithin,
  topA "is_listed" sListed,
  topA "are_integers" sAreInts,
  topA "is_name" sName,
  topA "are_names" sAreNames,
  topA "check_none_twice" sNoneTwice,
  topA "hands_told" sHands,
  topA "done_told" sDone,
  topA "check_hand" sHand,
  topA "_right" sRight,
  topA "is_ratio" sIsRatio,
  topA "is_amount" sIsAmount,
  topA "_are_ratios" sAreRatios,
  topA "added" sAdded,
  topA "_check_parties" sParties,
  topA "_net_of" sNetOf,
  topA "check_swap" sCheckSwap,
  topA "done_set" sDoneSet,
  topA "_effects_on" sEffects,
  topA "sums" sSums,
  topA "handed_back" sBack,
  topA "one_after" sOneAfter,
  topA "portion" sPortion,
  topA "_law_pen" sPen,
  topA "_law_draw" sDraw,
  topA "_law_pick" sPick,
  topA "_law_names" sNames,
  topA "_law_rows" sRows,
  topA "_law_worth" sWorth,
  topA "_law_hands" sHandsL,
  topA "_law_line" sLine,
  topA "_law_is" sIs,
  topA "_law_is_line" sIsLine,
  topA "_law_has" sHas,
  topA "_law_back" sLBack,
  topA "_law_back_right" sBackRight,
  topA "_law_portion_right" sPortionRight,
  topA "_law_heard" sHeard,
  topA "_law_refused_right" sRefused,
  topA "law" sLaw]
end K5
namespace K5
open PySem PySem.Spec PyProof.Rows L2 LamX K1 K18
def loose0 : List PySem.Str := ["_wall", "LastError", "BadRatio", "BadHandOver", "BadSwap", "BadDone", "BadNumber", "Missing", "NoStranger", "NoHand", "Twice", "Unlike", "TooMany", "BadText", "LETTERS", "DIGITS", "MOST_SIGNS", "MOST_DIGITS", "is_integer", "is_within"]
end K5
namespace K5
open PySem PySem.Spec PyProof.Rows L2 LamX K1 K18
def loose1 : List PySem.Str := ["is_name", "is_listed", "are_integers", "are_names", "check_none_twice", "hands_told", "done_told", "check_hand", "words_of", "word_at", "check_end", "integer_in", "Ratio", "_right", "is_ratio", "is_amount", "added", "_are_ratios", "ratio_in", "amount_at"]
end K5
namespace K5
open PySem PySem.Spec PyProof.Rows L2 LamX K1 K18
def loose2 : List PySem.Str := ["HandOver", "Swap", "check_swap", "_check_parties", "_net_of", "_scaled_hand", "_party_at", "_hand_at", "_strangers_at_start", "swap_at_start", "done_set", "sums", "_effects_on", "handed_back", "one_after", "portion", "_law_pen", "_law_draw", "_law_pick", "_law_names"]
end K5
namespace K5
open PySem PySem.Spec PyProof.Rows L2 LamX K1 K18
def loose3 : List PySem.Str := ["_law_rows", "_law_worth", "_law_hands", "_law_line", "_law_is", "_law_is_line", "_law_has", "_law_back", "_law_back_right", "_law_portion_right", "_law_heard", "_law_refused_right"]
end K5
namespace K5
open PySem PySem.Spec PyProof.Rows L2 LamX K1 K18
def loose : List PySem.Str := loose0 ++ (loose1 ++ (loose2 ++ loose3))
end K5
namespace K5
open PySem PySem.Spec PyProof.Rows L2 LamX K1 K18
abbrev RR : PySem.W.OpenRow := PySem.W.OpenLaw.row PySem.Challenge.rw_lastgiver_k05_handed_back_one_after_port
end K5
namespace K5
open PySem PySem.Spec PyProof.Rows L2 LamX K1 K18
noncomputable abbrev wf (w : World) : Option (Shared × PySem.W.SharedT) := HandSHeadRun.wholeF (fun p => HandSHeadRun.stepQ (HandSHeadRun.denQ HandSHeadRun.tabQ) p w) HandSHeadRun.fenceQ 40000 RR.prog
end K5
namespace K5
open PySem PySem.Spec PyProof.Rows L2 LamX K1 K18
abbrev sq (s : Shared) : Bool := PySem.W.xlAt (PySem.W.view RR.prog [0, 80]) [] s && PySem.W.recOk RR.toRowW.records s
end K5
namespace K5
open PySem PySem.Spec PyProof.Rows L2 LamX K1 K18
/-- the addresses that are looked at -/
def adl : List Addr := [3, 6, 4, 49, 59, 79, 98, 117, 136, 155, 174, 193, 212, 231, 250, 269, 288, 297, 304, 309, 316, 321, 326, 333, 340, 347, 354, 361, 368, 375, 380, 518, 529, 536, 543, 550, 555, 562, 569, 624, 753, 764, 771, 776, 783, 790, 797, 804, 811, 818, 823, 828, 835, 840, 845, 850, 857, 864, 869, 876, 883, 890, 897, 904, 909, 916, 921, 926, 931, 938, 945, 950, 0, 48, 58, 78, 97, 116, 135, 154, 173, 192, 211, 230, 249, 268, 287, 296, 303, 308, 315, 320, 325, 332, 339, 346, 353, 360, 367, 374, 379, 517, 528, 535, 542, 549, 554, 561, 568, 623, 752, 763, 770, 775, 782, 789, 796, 803, 810, 817, 822, 827, 834, 839, 844, 849, 856, 863, 868, 875, 882, 889, 896, 903, 908, 915, 920, 925, 930, 937, 944, 949, 43, 44, 45, 46, 47, 57, 60, 76, 77, 95, 96, 114, 115, 133, 134, 152, 153, 171, 172, 190, 191, 209, 210, 228, 229, 247, 248, 266, 267, 285, 286, 291, 292, 293, 294, 295, 298, 299, 300, 301, 302, 305, 306, 307, 310, 311, 312, 313, 314, 317, 318, 319, 322, 323, 324, 327, 328, 329, 330, 331, 334, 335, 336, 337, 338, 341, 342, 343, 344, 345, 348, 349, 350, 351, 352, 355, 356, 357, 358, 359, 362, 363, 364, 365, 366, 369, 370, 371, 372, 373, 376, 377, 378, 395, 403, 411, 418, 425, 432, 439, 446, 453, 460, 467, 474, 481, 488, 495, 504, 514, 516, 519, 520, 523, 524, 525, 526, 527, 530, 531, 532, 533, 534, 537, 538, 539, 540, 541, 544, 545, 546, 547, 548, 551, 552, 553, 556, 557, 558, 559, 560, 563, 564, 565, 566, 567, 583, 590, 597, 604, 611, 620, 622, 625, 626, 640, 648, 656, 664, 671, 678, 685, 692, 699, 706, 711, 718, 723, 728, 739, 749, 751, 754, 755, 758, 759, 760, 761, 762, 765, 766, 767, 768, 769, 772, 773, 774, 777, 778, 779, 780, 781, 784, 785, 786, 787, 788, 791, 792, 793, 794, 795, 798, 799, 800, 801, 802, 805, 806, 807, 808, 809, 812, 813, 814, 815, 816, 819, 820, 821, 824, 825, 826, 829, 830, 831, 832, 833, 836, 837, 838, 841, 842, 843, 846, 847, 848, 851, 852, 853, 854, 855, 858, 859, 860, 861, 862, 865, 866, 867, 870, 871, 872, 873, 874, 877, 878, 879, 880, 881, 884, 885, 886, 887, 888, 891, 892, 893, 894, 895, 898, 899, 900, 901, 902, 905, 906, 907, 910, 911, 912, 913, 914, 917, 918, 919, 922, 923, 924, 927, 928, 929, 932, 933, 934, 935, 936, 939, 940, 941, 942, 943, 946, 947, 948, 75, 94, 113, 132, 151, 170, 189, 208, 227, 246, 265, 284, 394, 388, 402, 410, 417, 424, 431, 438, 445, 452, 459, 466, 473, 480, 487, 494, 502, 503, 512, 513, 582, 589, 596, 603, 610, 618, 619, 639, 647, 655, 663, 670, 677, 684, 691, 698, 705, 710, 717, 722, 727, 737, 738, 747, 748, 70, 71, 72, 73, 74, 89, 90, 91, 92, 93, 108, 109, 110, 111, 112, 127, 128, 129, 130, 131, 146, 147, 148, 149, 150, 165, 166, 167, 168, 169, 184, 185, 186, 187, 188, 203, 204, 205, 206, 207, 222, 223, 224, 225, 226, 241, 242, 243, 244, 245, 260, 261, 262, 263, 264, 279, 280, 281, 282, 283, 389, 390, 391, 392, 393, 401, 409, 412, 413, 414, 415, 416, 419, 420, 421, 422, 423, 426, 427, 428, 429, 430, 433, 434, 435, 436, 437, 440, 441, 442, 443, 444, 447, 448, 449, 450, 451, 454, 455, 456, 457, 458, 461, 462, 463, 464, 465, 468, 469, 470, 471, 472, 475, 476, 477, 478, 479, 482, 483, 484, 485, 486, 489, 490, 491, 492, 493, 501, 505, 511, 515, 577, 578, 579, 580, 581, 584, 585, 586, 587, 588, 591, 592, 593, 594, 595, 598, 599, 600, 601, 602, 605, 606, 607, 608, 609, 617, 621, 636, 637, 638, 646, 654, 662, 665, 666, 667, 668, 669, 672, 673, 674, 675, 676, 679, 680, 681, 682, 683, 686, 687, 688, 689, 690, 693, 694, 695, 696, 697, 700, 701, 702, 703, 704, 707, 708, 709, 712, 713, 714, 715, 716, 719, 720, 721, 724, 725, 726, 736, 729, 730, 740, 746, 750, 2]
end K5
namespace K5
open PySem PySem.Spec PyProof.Rows L2 LamX K1 K18
abbrev oF (s : PySem.W.SharedT) : PySem.W.Frag := He.frT (HandSHeadRun.getT s) adl
end K5
namespace K5
open PySem PySem.Spec PyProof.Rows L2 LamX K1 K18
def factAll (K : PySem.W.Frag) : Bool := factB0 K && (factB1 K && (factB2 K && (factB3 K && (factB4 K && (factB5 K)))))
end K5
namespace K5
open PySem PySem.Spec PyProof.Rows L2 LamX K1 K18
def tab1 (g : Addr → Option Obj) (K : PySem.W.Frag) (c T : Addr) : Bool := PySem.W.codeHdIn K c T && (match g T with
  | some o => He.emptyTab o
  | none => false)
end K5
namespace K5
open PySem PySem.Spec PyProof.Rows L2 LamX K1 K18
def tabE (g : Addr → Option Obj) (K : PySem.W.Frag) : Bool := tab1 g K (cR K) (tR K)
end K5
namespace K5
open PySem PySem.Spec PyProof.Rows L2 LamX K1 K18
theorem runAll (w : World) : (wf w).map (fun x => (HandSHeadRun.looksF RR.prog x.1.heap x.2.abs, HandSHeadRun.seenQ (PySem.W.view RR.prog [0, 80]) loose (importedModules RR.prog.main.body) sq x.2.abs, factAll (oF x.2), He5.obsA [] fns (oF x.2), tabE (HandSHeadRun.getT x.2) (oF x.2))) = some (true, PySem.W.openGood (PySem.W.view RR.prog [0, 80]) loose, true, He5.valA fns, true) := by kernel_rfl
end K5
/-! Operators, abs, truth, == of an own class; a static method: rules over the layer. -/
namespace K1
open PySem PySem.Spec PyProof.Rows L2

section
open PySem.W PySem.Calls
variable {prog : Program} {w : World} {A : Around} {E : Value → Shared → Prop} {s : Shared} {K : Frag} {x C L f : Addr} {h0 : Heap} {m : Str → Option Value} {ox : Obj} {od : Option Obj} {T : String}
/-- o op b, b of a built-in class that a look at the heap tells -/
theorem bin_look {op : Operator} {b : Value} {fo ro rc : Option Value} {Q : Value → Shared → Prop} (F : Fr h0 L s.heap m) (X0 : K.In h0) (I : InstAt s.heap x ox C od) (hb : ∀ h', (∀ a o, s.heap.get? a = some o → h'.get? a = some o) → Looks (model prog w) h' (typeOf b) (.type T))
    (hc : selfFirst K C = true) (hs : findIn K (.ref C) (PySem.dunder op.info.2) = some (some (.ref f))) (hf : isFn K (.ref f) = true) (hr : findIn K (.ref C) (dunderR op.info.2) = some rc) (hp : rc = none ∨ ∃ g : Addr, rc = some (.ref g))
    (t1 : findIn K (.type T) (PySem.dunder op.info.2) = some fo) (t2 : findIn K (.type T) (dunderR op.info.2) = some ro) (ts : subIn K (.type T) (.ref C) = some false)
    (h : wpAny (model prog w) A (call (.ref f) [.ref x, b]) (PySem.W.CmpBack Q) E s) : wpAny (model prog w) A (binaryOp op (.ref x) b) Q E s := by
  have KX := X0.keeps F.keep
  obtain ⟨cd, rest, c1, c2⟩ := ksp_first hc
  rcases e : op.info with ⟨sy, n⟩
  rw [e] at hs hr t1 t2
  dsimp only at hs hr t1 t2
  have done := ksp_try KX I hs hf h
  have hb1 := hb s.heap fun _ _ z => z
  obtain ⟨hh, g, d, tt, os⟩ := s
  have k1 : Looks (model prog w) hh (typeOf (.ref x)) (.ref C) := I.type
  have k2 : Looks (model prog w) hh (typeOf b) (.type T) := hb1
  have k3 : Looks (model prog w) hh (fillsNumberSlot (.ref C) n) true := fills_K KX c1 c2 hs
  obtain ⟨rt, k4⟩ : ∃ rt, Looks (model prog w) hh (fillsNumberSlot (.type T) n) rt := ⟨_, ksp_fillsT KX t1 t2⟩
  have k5 : Looks (model prog w) hh (isSubtype (.type T) (.ref C)) false := looks_subIn KX ts
  have k6 : Looks (model prog w) hh (numberSlotInPython (.ref C) n) true := ksp_inPy KX hs hr hp
  have k7 : Looks (model prog w) hh (numberSlotInPython (.type T) n) false := Looks.of_pure rfl
  have k8 : Looks (model prog w) hh (typeLookup (.type T) (dunderR n)) ro := looks_findIn KX t2
  have ne : (Value.ref C == Value.type T) = false := Bool.eq_false_iff.mpr fun q => by cases beq_iff_eq.mp q
  simp only [binaryOp, e]
  refine wpAny_holding (wpAny_bind ?_)
  unfold binaryOp1
  refine wpAny_bind (k1.at (wpAny_bind (k2.at (wpAny_bind (k3.at ?_)))))
  simp only [ne, Bool.false_eq_true, if_false]
  cases rt <;>
  · ksp_lk
    refine wpAny_mono done (fun r s' z => ?_) fun _ _ q => q
    obtain ⟨v, rfl, hq⟩ := z
    ksp_lk
    exact hq
theorem abs_own {Q : Value → Shared → Prop} (X : K.In s.heap) (I : InstAt s.heap x ox C od) (hs : findIn K (.ref C) "__abs__" = some (some (.ref f))) (hf : isFn K (.ref f) = true)
    (h : wpAny (model prog w) A.in1 (call (.ref f) [.ref x]) Q E s) : wpAny (model prog w) A (call (.builtin "abs") [.ref x]) Q E s := by
  refine call_function_entry kind_abs plain_abs entry_abs (args_abs _) ?_
  unfold Builtin.«abs»
  refine wpAny_bind (m := oneArg "abs" _) (wpAny_pure ?_)
  refine wpAny_bind (m := callSpecial? (.ref x) (Str.ofString "__abs__")) (special_fn X I hs (beq_iff_eq.mp hf) (wpAny_mono h (fun r s' hr => ?_) fun _ _ y => y))
  exact wpAny_pure ⟨_, rfl, hr⟩
end

/-! ### over the layer -/
section
variable {X : Cx} {pins : List (Addr × Obj)} {σ : L2.St} {H : Hp} {s s' : Shared} {Q : VK}
theorem ep_back {u : Value} (h : EP X pins σ Q u s') : PySem.W.CmpBack (EP X pins σ Q) u s' := by
  cases u with
  | notImplemented =>
    obtain ⟨v, H', I, r, q⟩ := h
    exfalso
    cases v <;> first | exact nomatch (r : Value.notImplemented = _) | (have z : ∃ t, Value.notImplemented = _ := r; obtain ⟨t, e⟩ := z; exact nomatch e)
  | _ => exact h
/-- the type of a value, looked up -/
theorem ty_look {M : Model} {x : V} {u t : Value} (I : Inv X pins σ H s) (rx : RelV x u) (ty : TyOf X.K H x t) : PySem.W.Looks M s.heap (typeOf u) t := by
  cases ty with
  | non => cases (show u = Value.none from rx); exact PySem.W.Looks.of_pure rfl
  | bl y => cases (show u = Value.bool y from rx); exact PySem.W.Looks.of_pure rfl
  | int i => obtain ⟨t, q⟩ := (show ∃ t, u = Value.int i t from rx); cases q; exact PySem.W.Looks.of_pure rfl
  | str y => obtain ⟨t, q⟩ := (show ∃ t, u = Value.str y t from rx); cases q; exact PySem.W.Looks.of_pure rfl
  | flt y => obtain ⟨t, q⟩ := (show ∃ t, u = Value.float y t from rx); cases q; exact PySem.W.Looks.of_pure rfl
  | @lst a xs ea =>
    cases (show u = Value.ref a from rx)
    obtain ⟨_, _, n, _, h1⟩ := (show ObjOk X.prog X.w H s.heap a (.lst xs) from I.hok a _ ea)
    exact (PySem.W.Looks.ld (part := none) h1).andThen .now
  | @frz a ob xs ea =>
    cases (show u = Value.ref a from rx)
    obtain ⟨_, _, _, n, _, h1⟩ := (show ObjOk X.prog X.w H s.heap a (.frz ob (.lst xs)) from I.hok a _ ea)
    exact (PySem.W.Looks.ld (part := none) h1).andThen .now
  | @tup a xs ea =>
    cases (show u = Value.ref a from rx)
    obtain ⟨_, _, _, o, h1, h2, _⟩ := (show ObjOk X.prog X.w H s.heap a (.tup xs) from I.hok a _ ea)
    rw [← h2]
    exact (PySem.W.Looks.ld (part := none) h1).andThen .now
  | @dK a kvs ea =>
    cases (show u = Value.ref a from rx)
    obtain ⟨_, _, vs, _, o, es, ep, h1, h2, _⟩ := (show ObjOk X.prog X.w H s.heap a (.dK kvs) from I.hok a _ ea)
    rw [← h2.1]
    exact (PySem.W.Looks.ld (part := none) h1).andThen .now
  | @dT a kvs ea =>
    cases (show u = Value.ref a from rx)
    obtain ⟨_, _, xs, _, o, es, ep, h1, h2, _⟩ := (show ObjOk X.prog X.w H s.heap a (.dT kvs) from I.hok a _ ea)
    rw [← h2.1]
    exact (PySem.W.Looks.ld (part := none) h1).andThen .now
  | @ins a C dx fs ea cl ha hn htk hm =>
    cases (show u = Value.ref a from rx)
    obtain ⟨mA, O, _⟩ := ins_get I.hok ea
    obtain ⟨od, J, _⟩ := O.look
    exact J.type
end

/-- an own operator's def: where it is found -/
structure OwnM (K : PySem.W.Frag) (C : Addr) (nm : Str) (f : Addr) : Prop where
  at_ : PySem.W.findIn K (.ref C) nm = some (some (.ref f))
  fn : PySem.W.isFn K (.ref f) = true
/-- what stands at the right: an instance of the class itself, or a value of a built-in class with these facts -/
def RightO (K : PySem.W.Frag) (C : Addr) (op : Operator) (y : V) (H : Hp) : Prop :=
  (∃ a dx fs, y = .ref a ∧ H a = some (.ins C dx fs)) ∨ ∃ (T : String) (fo ro : Option Value), TyOf K H y (.type T) ∧ PySem.W.findIn K (.type T) (PySem.dunder op.info.2) = some fo ∧ PySem.W.findIn K (.type T) (dunderR op.info.2) = some ro ∧ PySem.W.subIn K (.type T) (.ref C) = some false
/-- x op y: the def's promise at the two -/
def rOwn (K : PySem.W.Frag) (C : Addr) (op : Operator) (sp : Sp) (E : XK) : R2 := fun x y H Q => ∃ a dx fs, x = .ref a ∧ H a = some (.ins C dx fs) ∧ RightO K C op y H ∧ sp [x, y] H Q E
section
variable {X : Cx} {CX : CXT} {k : Nat} {C f : Addr} {fd : FuncData} {ps : List Str} {sp : Sp} {E : XK}
theorem op_own {op : Operator} (M : OwnM X.K C (PySem.dunder op.info.2) f) (c1 : PySem.W.selfFirst X.K C = true) (c2 : PySem.W.findIn X.K (.ref C) (dunderR op.info.2) = some none)
    (F : FnOk X.prog X.w X.K X.mg X.base CX k f fd ps sp) (hr : Room k X.A) (hb : Binds X.K fd ps []) (hx : Passes CX X E) : OpR X (binaryOp op) (rOwn X.K C op sp E) := by
  intro pins s σ H x y v u Q I rx ry h
  obtain ⟨a, dx, fs, rfl, ha, hy, hs⟩ := h
  obtain rfl : v = Value.ref a := rx
  obtain ⟨mA, O, _⟩ := ins_get I.hok ha
  obtain ⟨od, J, _⟩ := O.look
  obtain ⟨m, hF⟩ := I.fr
  have run : wpAny (model X.prog X.w) X.A (call (.ref f) [.ref a, u]) (PySem.W.CmpBack (EP X pins σ Q)) X.xe s :=
    thn (run_fn (us := [.ref a, u]) (vs := [.ref a, y]) (dvs := []) F hr hb .nil hx I (.cons rfl (.cons ry .nil)) (by rw [List.append_nil]; exact hs)) fun _ _ z => ep_back z
  rcases hy with ⟨b, dy, gs, rfl, hb'⟩ | ⟨T, fo, ro, ty, t1, t2, t3⟩
  · obtain rfl : u = Value.ref b := ry
    obtain ⟨mB, O', _⟩ := ins_get I.hok hb'
    obtain ⟨od', J', _⟩ := O'.look
    exact PySem.W.binop_K hF I.ok.mod.kin J J'.type c1 M.at_ M.fn run
  · exact bin_look hF I.ok.mod.kin J (fun h' kp => (ty_look I ry ty).keeps kp) c1 M.at_ M.fn c2 (.inl rfl) t1 t2 t3 run
/-- -x -/
theorem un_own (M : OwnM X.K C "__neg__" f) (F : FnOk X.prog X.w X.K X.mg X.base CX k f fd ps sp) (hr : Room k X.A) (hb : Binds X.K fd ps []) (hx : Passes CX X E) :
    UnR X (unaryOp .USub) (fun x H Q => ∃ a dx fs, x = .ref a ∧ H a = some (.ins C dx fs) ∧ sp [x] H Q E) := by
  intro pins s σ H x v Q I rx h
  obtain ⟨a, dx, fs, rfl, ha, hs⟩ := h
  obtain rfl : v = Value.ref a := rx
  obtain ⟨mA, O, _⟩ := ins_get I.hok ha
  obtain ⟨od, J, _⟩ := O.look
  obtain ⟨m, hF⟩ := I.fr
  exact PySem.W.ksp_neg hF I.ok.mod.kin J M.at_ M.fn (run_fn (us := [.ref a]) (vs := [.ref a]) (dvs := []) F hr hb .nil hx I (.cons rfl .nil) (by rw [List.append_nil]; exact hs))
/-- abs(x) -/
theorem call_absO (M : OwnM X.K C "__abs__" f) (F : FnOk X.prog X.w X.K X.mg X.base CX k f fd ps sp) (hr : Room (k + 1) X.A) (hb : Binds X.K fd ps []) (hx : Passes CX X.nox E) :
    CallR X (.builtin "abs") (fun xs H Q => ∃ a dx fs, xs = [.ref a] ∧ H a = some (.ins C dx fs) ∧ sp [.ref a] H Q E) := by
  intro pins s σ H xs us Q I r h
  obtain ⟨a, dx, fs, rfl, ha, hs⟩ := h
  obtain ⟨u, rfl, ru⟩ := vals1 r
  obtain rfl : u = Value.ref a := ru
  obtain ⟨mA, O, _⟩ := ins_get I.hok ha
  obtain ⟨od, J, _⟩ := O.look
  have hl := F.len _ _ _ _ hs
  refine abs_own I.kIn J M.at_ M.fn (wpAny_call (codeAny_mono (F.run X.A.in1 X.stack s H ⟨[.ref a], []⟩ [.ref a] [.ref a] Q E hr.in1 I.env0.in1 (by
    have z := hb s [.ref a] I.kIn (by simpa using hl)
    simpa using z) (.cons rfl .nil) hs) fun r s' hq => ?_))
  cases r with
  | error e => exact False.elim (hx pins σ H s e s' (I.wish _) hq)
  | ok fl =>
    cases fl with
    | ret w => exact I.after hq
    | next => exact False.elim hq
    | brk => exact False.elim hq
    | cont => exact False.elim hq
/-- x as a test, an own __bool__ that tells a truth -/
theorem tru_own (M : OwnM X.K C "__bool__" f) (F : FnOk X.prog X.w X.K X.mg X.base CX k f fd ps sp) (hr : Room k X.A) (hb : Binds X.K fd ps []) (hx : Passes CX X E) :
    TruR X (fun x H Q => ∃ a dx fs, x = .ref a ∧ H a = some (.ins C dx fs) ∧ sp [x] H (fun v H' => ∃ b, v = .bl b ∧ Q b H') E) := by
  intro pins s σ H x v Q I rx h
  obtain ⟨a, dx, fs, rfl, ha, hs⟩ := h
  obtain rfl : v = Value.ref a := rx
  obtain ⟨mA, O, _⟩ := ins_get I.hok ha
  obtain ⟨od, J, _⟩ := O.look
  obtain ⟨m, hF⟩ := I.fr
  refine PySem.W.truthy_K hF I.ok.mod.kin J M.at_ M.fn (thn (run_fn (us := [.ref a]) (vs := [.ref a]) (dvs := []) F hr hb .nil hx I (.cons rfl .nil) (by rw [List.append_nil]; exact hs)) fun u s' z => ?_)
  obtain ⟨w', H', I', rw', b, rfl, q⟩ := z
  obtain rfl : u = Value.bool b := rw'
  exact ⟨H', I', q⟩
end
end K1

namespace K1
open PySem PySem.Spec PyProof.Rows L2

section
open PySem.W PySem.Calls
variable {prog : Program} {w : World} {A : Around} {E : Value → Shared → Prop} {s : Shared} {K : Frag} {x C f : Addr} {ox : Obj} {od : Option Obj}
/-- bool(o), an own __bool__ -/
theorem bool_own {Q : Value → Shared → Prop} {h0 : Heap} {L : Addr} {m : Str → Option Value} (F : Fr h0 L s.heap m) (X0 : K.In h0) (I : InstAt s.heap x ox C od) (hs : findIn K (.ref C) "__bool__" = some (some (.ref f))) (hf : isFn K (.ref f) = true)
    (h : wpAny (model prog w) A.in1.in1 (call (.ref f) [.ref x]) (PySem.W.BoolBack fun b s' => Q (.bool b) s') E s) : wpAny (model prog w) A (call (.type "bool") [.ref x]) Q E s := by
  refine callType_codes (T := "bool") (Bi := Builtin.«object.__init__») (Q₁ := fun r s₁ => ∃ b, r = .bool b ∧ Q r s₁) PySem.F.called_bool (PySem.F.typeCall_bool_1 _) PySem.F.entry_object_init ?_ ?_
  · refine codeAny_of_tree ?_
    show wpAny _ _ (do checkBuiltinCall "bool.__new__" ⟨[.type "bool", .ref x], []⟩; again (.builtin "bool.__new__" ⟨[.type "bool", .ref x], []⟩)) _ _ s
    refine wpAny_bind (wpAny_of_eq (PySem.F.newCall_bool_1 _) (wpAny_pure ⟨plainId_quiet (by decide +kernel) _, codeAny_builtin PySem.F.entry_bool_new ?_⟩))
    rw [Around.under_plainId (by decide +kernel) _]
    unfold Builtin.«bool.__new__»
    have f1 := PySem.F.conv_sub_bool
    have tr : ∀ {P : Bool → Shared → Prop} {E2 : Value → Shared → Prop}, (∀ b s', Q (.bool b) s' → P b s') → (∀ e s', E e s' → E2 e s') → wpAny (model prog w) A.in1.in1 (truthy (.ref x)) P E2 s := fun p e => wpAny_mono (truthy_K F X0 I hs hf h) p e
    clear h hs hf I X0 F
    obtain ⟨hp, g, d, tk, os⟩ := s
    repeat (any_goals (first | assumption | (with_reducible refine tr (fun b s' hb => ?_) (fun e s' he => ?_)) | wp_step))
    all_goals first | exact ⟨_, rfl, hb⟩ | exact he | skip
  · rintro obj s₁ ⟨b, rfl, hq⟩
    exact ⟨rfl, PySem.F.args_object_init_2 _ _, object_init_meets PySem.F.called_bool.init.lookup PySem.F.called_bool.made (by decide) prog w A.in1 _ s₁ ⟨rfl, rfl, hq⟩⟩
end

section
variable {X : Cx} {CX : CXT} {k : Nat} {C f : Addr} {fd : FuncData} {ps : List Str} {sp : Sp} {E : XK}
/-- bool(x) -/
theorem call_boolO (M : OwnM X.K C "__bool__" f) (F : FnOk X.prog X.w X.K X.mg X.base CX k f fd ps sp) (hr : Room (k + 2) X.A) (hb : Binds X.K fd ps []) (hx : Passes CX X.nox E) :
    CallR X (.type "bool") (fun xs H Q => ∃ a dx fs, xs = [.ref a] ∧ H a = some (.ins C dx fs) ∧ sp [.ref a] H (fun v H' => ∃ b, v = .bl b ∧ Q (.bl b) H') E) := by
  intro pins s σ H xs us Q I r h
  obtain ⟨a, dx, fs, rfl, ha, hs⟩ := h
  obtain ⟨u, rfl, ru⟩ := vals1 r
  obtain rfl : u = Value.ref a := ru
  obtain ⟨mA, O, _⟩ := ins_get I.hok ha
  obtain ⟨od, J, _⟩ := O.look
  obtain ⟨m, hF⟩ := I.fr
  have hl := F.len _ _ _ _ hs
  refine bool_own hF I.ok.mod.kin J M.at_ M.fn (wpAny_call (codeAny_mono (F.run X.A.in1.in1 X.stack s H ⟨[.ref a], []⟩ [.ref a] [.ref a] _ E hr.in1.in1 I.env0.in1.in1 (by
    have z := hb s [.ref a] I.kIn (by simpa using hl)
    simpa using z) (.cons rfl .nil) hs) fun r s' hq => ?_))
  cases r with
  | error e => exact False.elim (hx pins σ H s e s' (I.wish _) hq)
  | ok fl =>
    cases fl with
    | ret u =>
      obtain ⟨v, H2, I2, rv, b, rfl, q⟩ := I.after hq
      obtain rfl : u = Value.bool b := rv
      exact ⟨.bl b, H2, I2, rfl, q⟩
    | next => exact False.elim hq
    | brk => exact False.elim hq
    | cont => exact False.elim hq
/-- repr(x) -/
theorem call_reprO (M : OwnM X.K C "__repr__" f) (F : FnOk X.prog X.w X.K X.mg X.base CX k f fd ps sp) (hr : Room (k + 1) X.A) (hb : Binds X.K fd ps []) (hx : Passes CX X.nox E) :
    CallR X (.builtin "repr") (fun xs H Q => ∃ a dx fs, xs = [.ref a] ∧ H a = some (.ins C dx fs) ∧ sp [.ref a] H (fun v H' => ∃ t, v = .str t ∧ Q (.str t) H') E) := by
  intro pins s σ H xs us Q I r h
  obtain ⟨a, dx, fs, rfl, ha, hs⟩ := h
  obtain ⟨u, rfl, ru⟩ := vals1 r
  obtain rfl : u = Value.ref a := ru
  obtain ⟨mA, O, _⟩ := ins_get I.hok ha
  obtain ⟨od, J, _⟩ := O.look
  obtain ⟨m, hF⟩ := I.fr
  have hl := F.len _ _ _ _ hs
  have un := hr.in1.un
  refine PySem.W.repr_K (by omega) hF I.ok.mod.kin J M.at_ M.fn (wpAny_call (codeAny_mono (F.run X.A.in1 X.stack s H ⟨[.ref a], []⟩ [.ref a] [.ref a] _ E hr.in1 I.env0.in1 (by
    have z := hb s [.ref a] I.kIn (by simpa using hl)
    simpa using z) (.cons rfl .nil) hs) fun r s' hq => ?_))
  cases r with
  | error e => exact False.elim (hx pins σ H s e s' (I.wish _) hq)
  | ok fl =>
    cases fl with
    | ret u =>
      obtain ⟨v, H2, I2, rv, t, rfl, q⟩ := I.after hq
      obtain ⟨tk, rfl⟩ := rv
      exact ⟨.str t, H2, I2, ⟨tk, rfl⟩, q⟩
    | next => exact False.elim hq
    | brk => exact False.elim hq
    | cont => exact False.elim hq
/-- str(x) -/
theorem call_strO (M : OwnM X.K C "__str__" f) (F : FnOk X.prog X.w X.K X.mg X.base CX k f fd ps sp) (hr : Room (k + 2) X.A) (hb : Binds X.K fd ps []) (hx : Passes CX X.nox E) :
    CallR X (.type "str") (fun xs H Q => ∃ a dx fs, xs = [.ref a] ∧ H a = some (.ins C dx fs) ∧ sp [.ref a] H (fun v H' => ∃ t, v = .str t ∧ Q (.str t) H') E) := by
  intro pins s σ H xs us Q I r h
  obtain ⟨a, dx, fs, rfl, ha, hs⟩ := h
  obtain ⟨u, rfl, ru⟩ := vals1 r
  obtain rfl : u = Value.ref a := ru
  obtain ⟨mA, O, _⟩ := ins_get I.hok ha
  obtain ⟨od, J, _⟩ := O.look
  have hl := F.len _ _ _ _ hs
  have un := hr.in1.in1.un
  refine PySem.W.kso_call (by omega) I.kIn J M.at_ M.fn (wpAny_call (codeAny_mono (F.run X.A.in1.in1 X.stack s H ⟨[.ref a], []⟩ [.ref a] [.ref a] _ E hr.in1.in1 I.env0.in1.in1 (by
    have z := hb s [.ref a] I.kIn (by simpa using hl)
    simpa using z) (.cons rfl .nil) hs) fun r s' hq => ?_))
  cases r with
  | error e => exact False.elim (hx pins σ H s e s' (I.wish _) hq)
  | ok fl =>
    cases fl with
    | ret u =>
      obtain ⟨v, H2, I2, rv, t, rfl, q⟩ := I.after hq
      obtain ⟨tk, rfl⟩ := rv
      exact ⟨.str t, H2, I2, ⟨tk, rfl⟩, q⟩
    | next => exact False.elim hq
    | brk => exact False.elim hq
    | cont => exact False.elim hq
/-- x == y, x such an instance -/
def rEqO (K : PySem.W.Frag) (C : Addr) (sp : Sp) (E : XK) : R2 := fun x y H Q => ∃ a dx fs t, x = .ref a ∧ H a = some (.ins C dx fs) ∧ TyOf K H y t ∧ PySem.W.notFirst K C t = true ∧ sp [x, y] H Q E
theorem op_eqO (M : OwnM X.K C "__eq__" f) (F : FnOk X.prog X.w X.K X.mg X.base CX k f fd ps sp) (hr : Room k X.A) (hb : Binds X.K fd ps []) (hx : Passes CX X E) : OpR X (compareOp .Eq) (rEqO X.K C sp E) := by
  intro pins s σ H x y v u Q I rx ry h
  obtain ⟨a, dx, fs, t, rfl, ha, ty, hn, hs⟩ := h
  obtain rfl : v = Value.ref a := rx
  obtain ⟨mA, O, _⟩ := ins_get I.hok ha
  obtain ⟨od, J, _⟩ := O.look
  obtain ⟨m, hF⟩ := I.fr
  refine PySem.W.cmp_ofEq (PySem.W.cmp_K (op := .Eq) hr.units0 hF I.ok.mod.kin J (ty_look I ry ty) hn M.at_ M.fn ?_)
  exact thn (run_fn (us := [.ref a, u]) (vs := [.ref a, y]) (dvs := []) F hr hb .nil hx I (.cons rfl (.cons ry .nil)) (by rw [List.append_nil]; exact hs)) fun _ _ z => ep_back z
end

/-! ### C.m(e, ..), a static method -/
structure SMet (K : PySem.W.Frag) (C : Addr) (m : Str) (g : Addr) : Prop where
  p : ∃ p, PySem.W.findCls K (.ref C) (.type "type") m = some (.get (.builtin "staticmethod.__get__") (.ref p) .none (.ref C)) ∧ ∃ rest, PySem.W.recIn K p "staticmethod" = some (.ref g :: rest)
  kp : PySem.W.keepIn K (.ref g) = true
def tSMeth (C : Addr) (sp : Sp) (E : XK) (ta : TE) (t : TA) : TE := fun σ H Q => ta σ H fun x H1 => x = .ref C ∧ t σ H1 fun vs H2 => sp vs H2 Q E
theorem pe_smeth {X : Cx} {CX : CXT} {k : Nat} {C g : Addr} {fd : FuncData} {ps : List Str} {sp : Sp} {E : XK} {o e : Expr} {es : List Expr} {m : Str} {pos apos : Pos} {ta : TE} {t : TA} {pl : Sem Bool}
    (he : PE X o ta) (r : ClX.CRead X.K C (.type "type")) (c : SMet X.K C m g) (F : FnOk X.prog X.w X.K X.mg X.base CX k g fd ps sp) (hr : Room k X.A) (hb : Binds X.K fd ps []) (hx : Passes CX X E) (ha : PA X (e :: es) t)
    (hst : starEach (e :: es) X.env = (false, eval e X.env) :: starEach es X.env := by rfl) (hpl : (backTo pos (starEach es X.env)).any (·.1) = false := by rfl)
    (ht : eval (.Call (.Attribute o m apos) (e :: es) [] pos) X.env = (eval o X.env >>= fun ov => standAt apos.atName >>= fun _ => holding [ov] (getMethod ov m pl) >>= fun fg =>
      callWith pos fg.1 fg.2 (backTo pos (starEach (e :: es) X.env)) (backToKw pos (keywordEach [] X.env))) := by rfl) :
    PE X (.Call (.Attribute o m apos) (e :: es) [] pos) (tSMeth C sp E ta t) := by
  refine ⟨fun pins s σ H Q I h => ?_⟩
  refine PySem.W.methodCall_KW (pl := pl) (thn (he.run pins s σ H _ I h) fun u s1 ⟨x, H1, I1, rx, ex, q⟩ => ?_) ht
  subst ex
  obtain rfl : u = Value.ref C := rx
  obtain ⟨p, c1, rest, c2⟩ := c.p
  refine PySem.W.method_cls I1.kIn r.ga (PySem.W.cls_bind I1.kIn r.rd c1 (wpAny_call (PySem.W.sm_get (s := { s1 with toks := s1.toks + 1 }) I1.kIn c2 (PySem.W.handed_on rfl ?_))))
  have I2 := I1.tok (s1.toks + 1)
  refine PySem.W.callWith_K (first := []) (h₀ := X.base) I.ok.mod.kin c.kp (thn (ha.run pos pins _ σ H1 _ I2 q) fun us s3 ⟨vs, H3, I3, rv, q3⟩ => ⟨I3.kIn, ?_⟩) hst hpl
  exact run_fn F hr hb .nil hx I3 rv (by rw [List.append_nil]; exact q3)
end K1

/-! x(lambda: body, 'text'): a def that is handed a lambda and a text. -/
namespace K1
open PySem PySem.Spec PyProof.Rows L2 LamX

/-- x(), in the def that got the lambda; what is raised is wished for at that def's slots -/
theorem pe_act2 {X : Cx} {pins0 : List (Addr × Obj)} {σ0 : L2.St} {H0 : Hp} {s0 : Shared} {CXg : CXT} {Eg : XK} {Ng : List Str} {qg a : Str} {sg scope : Scope} {g f c2 : Addr} {cdg pm ctv : Value} {params : Arguments} {body : Expr} {k i : Nat} {pn : List (Addr × Obj)} {xe : Value → Shared → Prop} {W : WX}
    {tb : XK → TE} {p1 p2 : Pos} (I0 : Inv X pins0 σ0 H0 s0) (L : LamS X.env.scope scope) (hf : s0.heap.get? f = some (PySem.W.kla_obj "<lambda>" (X.env.qual ++ "<lambda>") params body scope (cloFrom X.env.cells scope.names []) pm c2 ctv)) (nf : H0 f = none) (ns : f ∉ frs X.stack)
    (nb : bindArgs (PySem.W.kla_fn "<lambda>" (X.env.qual ++ "<lambda>") params body scope (cloFrom X.env.cells scope.names []) pm (.ref c2) ctv) ⟨[], []⟩ = pure []) (tk : Takes ((cxOf CXg X.prog X.w X.K X.mg X.base Ng qg sg g cdg X.A X.stack s0 H0 Eg).tr pn xe) W)
    (hr : Room (k + 1) (X.A.deeper (envOfC qg sg s0.heap.objs.size g cdg))) (hb : ∀ (A : Around) (outer : List Env) (s : Shared) (H : Hp) (E : XK), Room k (A.deeper (lamEnv X scope s.heap.objs.size f c2)) → PE (lamCx X A outer s H E scope f c2) body (tb E))
    (hN : Ng[i]? = some a) (hv : Vis sg a) (hd : (a == ("__debug__" : Str)) = false) (hcd : (a == ("__classdict__" : Str)) = false) :
    PE ((cxOf CXg X.prog X.w X.K X.mg X.base Ng qg sg g cdg X.A X.stack s0 H0 Eg).tr pn xe) (.Call (.Name a p1) [] [] p2) (fun σ H Q => σ[i]? = some (some (.ref f)) ∧ H c2 = some (CodeO c2 (X.env.qual ++ "<lambda>")) ∧ tb (WE W σ) σ0 H Q) := by
  refine ⟨fun pZ sZ σZ HZ Q IZ ⟨z1, z2, z3⟩ => ?_⟩
  refine wpAny_Call_Name_kw (thn ((pe_var (pos := p1) (i := i) hN hv hd hcd).run pZ sZ σZ HZ (fun v H1 => v = .ref f ∧ H1 = HZ) IZ ⟨.ref f, z1, rfl, rfl⟩) fun u s1 ⟨v, H1, I1, r1, e1, e2⟩ => ?_)
  subst e1 e2
  obtain rfl : u = Value.ref f := r1
  have at1 : s1.heap.get? f = some (PySem.W.kla_obj "<lambda>" (X.env.qual ++ "<lambda>") params body scope (cloFrom X.env.cells scope.names []) pm c2 ctv) := I1.base.keep f _ hf nf ns fun z => nomatch (show f ∈ ([] : List Addr) from z)
  refine PySem.W.callWith_F0 ⟨_, _, _, _, at1⟩ ?_
  have U : Un (frs X.stack) [] H0 H1 s0.heap s1.heap := I1.base
  obtain ⟨⟨oc, cvs, ct, g1, g2, g3⟩, _, _⟩ := I1.hok c2 _ z2
  have run : codeAny (model X.prog X.w) (X.A.deeper (envOfC qg sg s0.heap.objs.size g cdg)) (.call (.ref f) ⟨[], []⟩) (CR (L2.CX X.prog X.w) (envOfC qg sg s0.heap.objs.size g cdg :: X.stack) X.prog X.w H1 s1 Q (WE W σZ)) s1 := by
    refine PySem.W.kla_callFunE hr.depth at1 rfl L.co L.gen rfl ⟨c2, oc, cvs, ct, rfl, g1, g2, g3⟩ (by
      rw [nb]
      refine wpAny_pure (wpAny_newFunctionEnv (fun y hy => (L.own y hy).2) (fun y hy => absurd hy (by simp)) (fun hp hns hsb => ⟨I1.nolimit.fresh _ hsb, ?_⟩) L.kind)
      have kept : ∀ b o, s1.heap.get? b = some o → hp.get? b = some o := fun b o q => hsb.extBut b o (Nat.ne_of_lt (Heap.lt_size q)) (Heap.get?_push_of_some _ q)
      have J : Inv (lamCx X (X.A.deeper (envOfC qg sg s0.heap.objs.size g cdg)) (envOfC qg sg s0.heap.objs.size g cdg :: X.stack) s1 H1 (WE W σZ) scope f c2) [] σ0 H1 { s1 with heap := hp, toks := s1.toks + ([] : List (Str × Value)).length } := lam_start2 I0 L I1.env0 hr.hd U hns kept
      show codeAny _ _ (.expr body (lamEnv X scope s1.heap.objs.size f c2)) _ _
      refine PySem.W.kla_codeExpr (wpAny_mono ((hb _ _ s1 H1 _ (hr.deeper _)).run [] _ _ H1 Q J z3) (fun v s2 ⟨w1, H2, J2, rv, q2⟩ => ⟨w1, H2, J2.os, J2.bare, J2.base, J2.hok, rv, q2⟩) fun _ _ q => q))
  refine wpAny_call (codeAny_mono run fun r s2 hq => ?_)
  rcases r with e | fl
  · exact passAt tk σZ pZ H1 s1 e s2 I1 hq
  · cases fl <;> first | exact I1.after hq | exact False.elim hq
/-- the def that calls what it got, beside a text y -/
def Gives2 (X : Cx) (Ng : List Str) (x : Str) (sg : Scope) (g : Addr) (cdg : Value) (bg : List Stmt) (a : Str) (q : Str) (y : Str) (TT : (XK → Hp → VK → Prop) → Hp → VK → Prop) : Prop :=
  ∀ (f c' : Addr) (s : Shared) (H : Hp) (Q : VK) (tl : XK → Hp → VK → Prop),
    (∀ (W : WX) (pn : List (Addr × Obj)) (xe : Value → Shared → Prop) (p1 p2 : Pos), Takes ((cxOf C8.CX0 X.prog X.w X.K X.mg X.base Ng x sg g cdg X.A X.stack s H C8.E0).tr pn xe) W →
      PE ((cxOf C8.CX0 X.prog X.w X.K X.mg X.base Ng x sg g cdg X.A X.stack s H C8.E0).tr pn xe) (.Call (.Name a p1) [] [] p2) (fun σZ HZ Q => σZ[0]? = some (some (.ref f)) ∧ HZ c' = some (CodeO c' q) ∧ tl (WE W σZ) HZ Q)) →
    H c' = some (CodeO c' q) → TT tl H Q →
    ∃ t, PSs (cxOf C8.CX0 X.prog X.w X.K X.mg X.base Ng x sg g cdg X.A X.stack s H C8.E0).nox bg t ∧ t { nx := fun _ H' => Q .non H', rt := Q } (L2.start Ng [.ref f, .str y]) H
section
variable {X : Cx}
theorem pe_lam2 {T : List (Addr × Str)} {TT : (XK → Hp → VK → Prop) → Hp → VK → Prop} {x a b y : Str} {g c P : Addr} {k j : Nat} {pg : Arguments} {bg : List Stmt} {sg : Scope} {dV kV doc pm cdv ct oc : Value} {an od : Option Addr} {osl : Array (Option Value)} {Ng : List Str}
    {params : Arguments} {body : Expr} {scope : Scope} {t : XK → TE} {p lpos cpos pos : Pos} (hg : Gl X x) (hm : X.mg x = some (.ref g)) (hk : PySem.W.keepIn X.K (.ref g) = true)
    (lk : X.K.lookup g = some ⟨oc, od, .func (PySem.W.fnOf x x pg bg sg dV kV doc pm an cdv ct), osl⟩) (hcg : PySem.W.codeIn X.K cdv x = true) (hb : L2.Binds X.K (PySem.W.fnOf x x pg bg sg dV kV doc pm an cdv ct) [a, b] []) (Sg : FnScope Ng [a, b] sg) (hNg : Ng[0]? = some a) (hva : Vis sg a)
    (hG : Gives2 X Ng x sg g cdv bg a (X.env.qual ++ "<lambda>") y TT)
    (TB : TabB X.base X.mg c P) (hcode : X.env.code = .ref c) (hmT : (P, X.env.qual ++ "<lambda>") ∈ T) (hu : ∀ p ∈ T, p.1 = P → p.2 = X.env.qual ++ "<lambda>") (hr : Room (k + 2) X.A) (L : LamS X.env.scope scope) (hdef : defaultsOf params X.env = ([], []))
    (hbind : ∀ (q : Str) (cl : List (Str × Addr)) (pm cv ctv : Value), bindArgs (PySem.W.kla_fn "<lambda>" q params body scope cl pm cv ctv) ⟨[], []⟩ = pure [])
    (hbody : ∀ (A : Around) (outer : List Env) (s : Shared) (H : Hp) (E : XK) (f c' : Addr), Room k (A.deeper (lamEnv X scope s.heap.objs.size f c')) → PE (lamCx X A outer s H E scope f c') body (t E))
    (hdb : (x == ("__debug__" : Str)) = false := by decide) (hd : (a == ("__debug__" : Str)) = false := by decide) (hcd : (a == ("__classdict__" : Str)) = false := by decide) :
    PE X (.Call (.Name x p) [.Lambda params body scope lpos, .Constant (.str y) j cpos] [] pos) (tLam T TT t) := by
  refine ⟨fun pins s σ H Q I ⟨hT, h⟩ => ?_⟩
  refine wpAny_Call_Name_kw (ld_glob I hg hm ?_ hdb)
  refine PySem.W.callWith_K (h₀ := X.base) I.ok.mod.kin hk ?_ (by rfl) (by rfl)
  show wpAny _ _ (spliced ((false, eval (.Lambda params body scope lpos) X.env) :: (backTo pos (starEach [.Constant (.str y) j cpos] X.env)))) _ _ s
  refine Calls.spliced_cons (lam_make2 I TB hcode hmT hu hT hdef (L.has I.ok) fun f c' pm' ctv H1 s' I1 eN T1 hf hfn hfr hco => ?_)
  refine Calls.spliced_cons (Calls.Constant_str (k := j) (pos := cpos) ?_)
  have I2 : Inv X pins σ H1 { s' with toks := s'.toks + 1 } := I1.tok _
  refine Calls.spliced_nil ⟨I2.kIn, ?_⟩
  have rc : codeAny (model X.prog X.w) X.A (.call (.ref g) ⟨[.ref f, .str y s'.toks], []⟩) (CR C8.CX0 X.stack X.prog X.w H1 { s' with toks := s'.toks + 1 } Q C8.E0) { s' with toks := s'.toks + 1 } := by
    refine run_ofS (N := Ng) (ps := [a, b]) (us := [.ref f, .str y s'.toks]) (vs := [.ref f, .str y]) lk hcg Sg hr I2.env0 (hb _ [.ref f, .str y s'.toks] I2.kIn rfl) (.cons rfl (.cons ⟨_, rfl⟩ .nil)) rfl fun hr2 => ?_
    obtain ⟨t', ht', hq'⟩ := hG f c' _ H1 Q (fun E H' Q' => t E σ H' Q')
      (fun W pn xe p1 p2 tk => pe_act2 (i := 0) I2 L hf hfn hfr (hbind _ _ _ _ _) tk hr2 (fun A outer s H E hr3 => hbody A outer s H E f c' hr3) hNg hva hd hcd) hco (h H1 eN T1)
    exact ⟨t', ht'.nox, hq'⟩
  refine wpAny_call (codeAny_mono rc fun r s2 hq => ?_)
  cases r with
  | error e => exact (show False from hq).elim
  | ok fl => cases fl <;> first | exact I2.after hq | exact (show False from hq).elim
end
end K1

/-! Ratios in lowest terms: the mathematics. -/
namespace K1

/-- the common divisor, with the bottom's sign -/
def com (t b : Int) : Int := if b > 0 then (Nat.gcd t.natAbs b.natAbs : Int) else -(Nat.gcd t.natAbs b.natAbs : Int)
def rT (t b : Int) : Int := t.fdiv (com t b)
def rB (t b : Int) : Int := b.fdiv (com t b)

theorem gcd_pos {t b : Int} (h : b ≠ 0) : 0 < (Nat.gcd t.natAbs b.natAbs : Int) := by
  have := Nat.gcd_pos_of_pos_right t.natAbs (show 0 < b.natAbs by omega)
  omega
theorem com_ne {t b : Int} (h : b ≠ 0) : com t b ≠ 0 := by
  have := gcd_pos (t := t) h
  unfold com
  split <;> omega
theorem com_dvd_t (t b : Int) : com t b ∣ t := by
  have h : (Nat.gcd t.natAbs b.natAbs : Int) ∣ t := Int.ofNat_dvd_left.mpr (Nat.gcd_dvd_left _ _)
  unfold com
  split
  · exact h
  · exact Int.neg_dvd.mpr h
theorem com_dvd_b (t b : Int) : com t b ∣ b := by
  have h : (Nat.gcd t.natAbs b.natAbs : Int) ∣ b := Int.ofNat_dvd_left.mpr (Nat.gcd_dvd_right _ _)
  unfold com
  split
  · exact h
  · exact Int.neg_dvd.mpr h
theorem fdiv_mul {a c : Int} (h : c ∣ a) : a.fdiv c * c = a := by
  obtain ⟨k, rfl⟩ := h
  by_cases hc : c = 0
  · subst hc; simp
  · rw [Int.mul_fdiv_cancel_left _ hc, Int.mul_comm]
theorem rT_mul (t b : Int) : rT t b * com t b = t := fdiv_mul (com_dvd_t t b)
theorem rB_mul (t b : Int) : rB t b * com t b = b := fdiv_mul (com_dvd_b t b)
theorem rB_pos {t b : Int} (h : b ≠ 0) : 0 < rB t b := by
  have e := rB_mul t b
  have g := gcd_pos (t := t) h
  unfold com at e
  by_cases hb : b > 0
  · rw [if_pos hb] at e
    exact Int.pos_of_mul_pos_left (by omega : 0 < rB t b * _) g |> fun z => z
  · rw [if_neg hb, Int.mul_neg] at e
    have z : 0 < rB t b * (Nat.gcd t.natAbs b.natAbs : Int) := by omega
    exact Int.pos_of_mul_pos_left z g

theorem com_abs (t b : Int) : (com t b).natAbs = Nat.gcd t.natAbs b.natAbs := by
  unfold com
  split
  · exact Int.natAbs_natCast _
  · rw [Int.natAbs_neg, Int.natAbs_natCast]
theorem red_cop {t b : Int} (h : b ≠ 0) : Nat.gcd (rT t b).natAbs (rB t b).natAbs = 1 := by
  have e1 := congrArg Int.natAbs (rT_mul t b)
  have e2 := congrArg Int.natAbs (rB_mul t b)
  rw [Int.natAbs_mul, com_abs] at e1 e2
  have g := Nat.gcd_pos_of_pos_right t.natAbs (show 0 < b.natAbs by omega)
  have z : Nat.gcd (rT t b).natAbs (rB t b).natAbs * Nat.gcd t.natAbs b.natAbs = 1 * Nat.gcd t.natAbs b.natAbs := by
    rw [← Nat.gcd_mul_right, e1, e2, Nat.one_mul]
  exact Nat.eq_of_mul_eq_mul_right g z
theorem low_unique {p q p' q' : Int} (hq : 0 < q) (hq' : 0 < q') (h : Nat.gcd p.natAbs q.natAbs = 1) (h' : Nat.gcd p'.natAbs q'.natAbs = 1) (e : p * q' = p' * q) : p = p' ∧ q = q' := by
  have n := congrArg Int.natAbs e
  rw [Int.natAbs_mul, Int.natAbs_mul] at n
  have d1 : q.natAbs ∣ q'.natAbs := Nat.Coprime.dvd_of_dvd_mul_left (k := q.natAbs) (m := p.natAbs) (show Nat.gcd q.natAbs p.natAbs = 1 by rw [Nat.gcd_comm]; exact h) ⟨p'.natAbs, by rw [n, Nat.mul_comm]⟩
  have d2 : q'.natAbs ∣ q.natAbs := Nat.Coprime.dvd_of_dvd_mul_left (k := q'.natAbs) (m := p'.natAbs) (show Nat.gcd q'.natAbs p'.natAbs = 1 by rw [Nat.gcd_comm]; exact h') ⟨p.natAbs, by rw [← n, Nat.mul_comm]⟩
  have eq : q = q' := by
    have := Nat.dvd_antisymm d1 d2
    omega
  subst eq
  exact ⟨Int.eq_of_mul_eq_mul_right (by omega) e, rfl⟩
/-- equal by the cross: told alike -/
theorem red_eq {t b t' b' : Int} (h : b ≠ 0) (h' : b' ≠ 0) (e : t * b' = t' * b) : rT t b = rT t' b' ∧ rB t b = rB t' b' := by
  refine low_unique (rB_pos h) (rB_pos h') (red_cop h) (red_cop h') ?_
  have c1 := com_ne (t := t) h
  have c2 := com_ne (t := t') h'
  have e1 := rT_mul t b
  have e2 := rB_mul t b
  have e3 := rT_mul t' b'
  have e4 := rB_mul t' b'
  have z : (rT t b * rB t' b') * (com t b * com t' b') = (rT t' b' * rB t b) * (com t b * com t' b') := by
    have l : (rT t b * rB t' b') * (com t b * com t' b') = (rT t b * com t b) * (rB t' b' * com t' b') := by ac_rfl
    have r : (rT t' b' * rB t b) * (com t b * com t' b') = (rT t' b' * com t' b') * (rB t b * com t b) := by ac_rfl
    rw [l, r, e1, e2, e3, e4, e]
  exact Int.eq_of_mul_eq_mul_right (Int.mul_ne_zero c1 c2) z
theorem red_low {t b : Int} (hb : 0 < b) (h : Nat.gcd t.natAbs b.natAbs = 1) : rT t b = t ∧ rB t b = b := by
  have c : com t b = 1 := by unfold com; rw [if_pos hb, h]; rfl
  unfold rT rB
  rw [c]
  exact ⟨Int.fdiv_one _, Int.fdiv_one _⟩
theorem red_one (t : Int) : rT t 1 = t ∧ rB t 1 = 1 := red_low (by decide) (by simp)
theorem cross {t b : Int} (h : b ≠ 0) : rT t b * b = t * rB t b := by
  have e1 := rT_mul t b
  have e2 := rB_mul t b
  have : rT t b * (rB t b * com t b) = rT t b * com t b * rB t b := by ac_rfl
  rw [e1, e2] at this
  exact this
theorem rT_zero {t b : Int} (h : b ≠ 0) : rT t b = 0 ↔ t = 0 := by
  have e := rT_mul t b
  constructor
  · intro z; rw [z] at e; simpa using e.symm
  · intro z; subst z; unfold rT; exact Int.zero_fdiv _
/-! bounds -/
theorem natAbs_le_mul {p c : Int} (hc : c ≠ 0) : p.natAbs ≤ (p * c).natAbs := by
  rw [Int.natAbs_mul]
  exact Nat.le_mul_of_pos_right _ (by omega)
theorem rT_le {t b : Int} (h : b ≠ 0) : (rT t b).natAbs ≤ t.natAbs := by
  have := natAbs_le_mul (p := rT t b) (com_ne (t := t) h)
  rwa [rT_mul] at this
theorem rB_le {t b : Int} (h : b ≠ 0) : (rB t b).natAbs ≤ b.natAbs := by
  have := natAbs_le_mul (p := rB t b) (com_ne (t := t) h)
  rwa [rB_mul] at this
/-! Euclid's loop, by the floor's rest -/
theorem euclid_step (a b : Int) : Int.gcd b (a.fmod b) = Int.gcd a b := by
  rw [Int.fmod_def, Int.gcd_sub_mul_left_right, Int.gcd_comm]
theorem fmod_small {a b : Int} (h : b ≠ 0) : (a.fmod b).natAbs < b.natAbs := by
  by_cases hb : 0 < b
  · have h1 := Int.fmod_nonneg_of_pos a hb
    have h2 := Int.fmod_lt_of_pos a hb
    omega
  · have e : a.fmod b = -((-a).fmod (-b)) := by
      have z := Int.neg_fmod_neg (a := a) (b := b)
      omega
    have h1 := Int.fmod_nonneg_of_pos (-a) (show 0 < -b by omega)
    have h2 := Int.fmod_lt_of_pos (-a) (show 0 < -b by omega)
    omega

section
variable {a0 a1 b0 b1 : Int} (ha : a1 ≠ 0) (hb : b1 ≠ 0)
include ha hb
theorem mul_ne : a1 * b1 ≠ 0 := Int.mul_ne_zero ha hb
theorem qq_ne : rB a0 a1 * rB b0 b1 ≠ 0 := Int.mul_ne_zero (by have := rB_pos (t := a0) ha; omega) (by have := rB_pos (t := b0) hb; omega)
theorem sum_red : rT (rT a0 a1 * rB b0 b1 + rT b0 b1 * rB a0 a1) (rB a0 a1 * rB b0 b1) = rT (a0 * b1 + b0 * a1) (a1 * b1) ∧ rB (rT a0 a1 * rB b0 b1 + rT b0 b1 * rB a0 a1) (rB a0 a1 * rB b0 b1) = rB (a0 * b1 + b0 * a1) (a1 * b1) := by
  refine red_eq (qq_ne ha hb) (mul_ne ha hb) ?_
  have x := cross (t := a0) ha
  have y := cross (t := b0) hb
  have l : (rT a0 a1 * rB b0 b1 + rT b0 b1 * rB a0 a1) * (a1 * b1) = (rT a0 a1 * a1) * (rB b0 b1 * b1) + (rT b0 b1 * b1) * (rB a0 a1 * a1) := by rw [Int.add_mul]; congr 1 <;> ac_rfl
  rw [l, x, y, Int.add_mul]
  congr 1 <;> ac_rfl
theorem dif_red : rT (rT a0 a1 * rB b0 b1 - rT b0 b1 * rB a0 a1) (rB a0 a1 * rB b0 b1) = rT (a0 * b1 - b0 * a1) (a1 * b1) ∧ rB (rT a0 a1 * rB b0 b1 - rT b0 b1 * rB a0 a1) (rB a0 a1 * rB b0 b1) = rB (a0 * b1 - b0 * a1) (a1 * b1) := by
  refine red_eq (qq_ne ha hb) (mul_ne ha hb) ?_
  have x := cross (t := a0) ha
  have y := cross (t := b0) hb
  have l : (rT a0 a1 * rB b0 b1 - rT b0 b1 * rB a0 a1) * (a1 * b1) = (rT a0 a1 * a1) * (rB b0 b1 * b1) - (rT b0 b1 * b1) * (rB a0 a1 * a1) := by rw [Int.sub_mul]; congr 1 <;> ac_rfl
  rw [l, x, y, Int.sub_mul]
  congr 1 <;> ac_rfl
theorem mul_red : rT (rT a0 a1 * rT b0 b1) (rB a0 a1 * rB b0 b1) = rT (a0 * b0) (a1 * b1) ∧ rB (rT a0 a1 * rT b0 b1) (rB a0 a1 * rB b0 b1) = rB (a0 * b0) (a1 * b1) := by
  refine red_eq (qq_ne ha hb) (mul_ne ha hb) ?_
  have x := cross (t := a0) ha
  have y := cross (t := b0) hb
  have l : rT a0 a1 * rT b0 b1 * (a1 * b1) = (rT a0 a1 * a1) * (rT b0 b1 * b1) := by ac_rfl
  rw [l, x, y]
  ac_rfl
theorem over_red (h0 : b0 ≠ 0) : rT (rT a0 a1 * rB b0 b1) (rB a0 a1 * rT b0 b1) = rT (a0 * b1) (a1 * b0) ∧ rB (rT a0 a1 * rB b0 b1) (rB a0 a1 * rT b0 b1) = rB (a0 * b1) (a1 * b0) := by
  have p2 : rT b0 b1 ≠ 0 := fun z => h0 ((rT_zero hb).mp z)
  refine red_eq (Int.mul_ne_zero (by have := rB_pos (t := a0) ha; omega) p2) (Int.mul_ne_zero ha h0) ?_
  have x := cross (t := a0) ha
  have y := cross (t := b0) hb
  have l : rT a0 a1 * rB b0 b1 * (a1 * b0) = (rT a0 a1 * a1) * (b0 * rB b0 b1) := by ac_rfl
  rw [l, x, ← y]
  ac_rfl
/-- how the two stand to each other -/
theorem cmp_red : (rT a0 a1 * rB b0 b1 - rT b0 b1 * rB a0 a1) * ((a1 * b1) * (a1 * b1)) = ((a0 * b1 - b0 * a1) * (a1 * b1)) * (rB a0 a1 * rB b0 b1) := by
  have x := cross (t := a0) ha
  have y := cross (t := b0) hb
  have l : (rT a0 a1 * rB b0 b1 - rT b0 b1 * rB a0 a1) * (a1 * b1) = (a0 * b1 - b0 * a1) * (rB a0 a1 * rB b0 b1) := by
    have l : (rT a0 a1 * rB b0 b1 - rT b0 b1 * rB a0 a1) * (a1 * b1) = (rT a0 a1 * a1) * (rB b0 b1 * b1) - (rT b0 b1 * b1) * (rB a0 a1 * a1) := by rw [Int.sub_mul]; congr 1 <;> ac_rfl
    rw [l, x, y, Int.sub_mul]
    congr 1 <;> ac_rfl
  rw [← Int.mul_assoc, l]
  ac_rfl
theorem qq_pos : 0 < rB a0 a1 * rB b0 b1 := Int.mul_pos (rB_pos ha) (rB_pos hb)
theorem sq_pos : 0 < (a1 * b1) * (a1 * b1) := by
  have h := mul_ne ha hb
  rcases Int.lt_or_gt_of_ne h with z | z
  · exact Int.mul_pos_of_neg_of_neg z z
  · exact Int.mul_pos z z
theorem cmp_zero : rT a0 a1 * rB b0 b1 = rT b0 b1 * rB a0 a1 ↔ (a0 * b1 - b0 * a1) * (a1 * b1) = 0 := by
  have e := cmp_red (a0 := a0) (b0 := b0) ha hb
  have p := qq_pos (a0 := a0) (b0 := b0) ha hb
  have s := sq_pos ha hb
  constructor
  · intro z
    rw [z, Int.sub_self, Int.zero_mul] at e
    rcases Int.mul_eq_zero.mp e.symm with q | q
    · exact q
    · omega
  · intro z
    rw [z, Int.zero_mul] at e
    rcases Int.mul_eq_zero.mp e with q | q
    · omega
    · omega
theorem cmp_lt : rT a0 a1 * rB b0 b1 < rT b0 b1 * rB a0 a1 ↔ (a0 * b1 - b0 * a1) * (a1 * b1) < 0 := by
  have e := cmp_red (a0 := a0) (b0 := b0) ha hb
  have p := qq_pos (a0 := a0) (b0 := b0) ha hb
  have s := sq_pos ha hb
  have k : ∀ {x y : Int}, 0 < y → (x * y < 0 ↔ x < 0) := fun {x y} hy => by
    constructor
    · intro h
      rcases Int.lt_or_le x 0 with q | q
      · exact q
      · have := Int.mul_nonneg q (Int.le_of_lt hy); omega
    · intro h; exact Int.mul_neg_of_neg_of_pos h hy
  have z := k (x := rT a0 a1 * rB b0 b1 - rT b0 b1 * rB a0 a1) s
  rw [e, k p] at z
  omega
end
theorem neg_red {a0 a1 : Int} (ha : a1 ≠ 0) : rT (-rT a0 a1) (rB a0 a1) = rT (-a0) a1 ∧ rB (-rT a0 a1) (rB a0 a1) = rB (-a0) a1 := by
  refine red_eq (by have := rB_pos (t := a0) ha; omega) ha ?_
  rw [Int.neg_mul, Int.neg_mul, cross ha]
theorem abs_red {a0 a1 : Int} (ha : a1 ≠ 0) : rT ((rT a0 a1).natAbs : Int) (rB a0 a1) = rT (a0.natAbs : Int) (a1.natAbs : Int) ∧ rB ((rT a0 a1).natAbs : Int) (rB a0 a1) = rB (a0.natAbs : Int) (a1.natAbs : Int) := by
  have q := rB_pos (t := a0) ha
  refine red_eq (by omega) (by omega) ?_
  have e := congrArg Int.natAbs (cross (t := a0) ha)
  rw [Int.natAbs_mul, Int.natAbs_mul] at e
  have z : ((rB a0 a1).natAbs : Int) = rB a0 a1 := by omega
  have e2 := congrArg (fun n : Nat => (n : Int)) e
  simp only [Int.natCast_mul] at e2
  rw [z] at e2
  exact e2
end K1

/-! k05: ratios in sixths. -/
namespace K5
open K1

theorem six_ne : (6 : Int) ≠ 0 := by decide
theorem six_add (a b : Int) : rT (rT a 6 * rB b 6 + rT b 6 * rB a 6) (rB a 6 * rB b 6) = rT (a + b) 6 ∧ rB (rT a 6 * rB b 6 + rT b 6 * rB a 6) (rB a 6 * rB b 6) = rB (a + b) 6 := by
  obtain ⟨x, y⟩ := sum_red (a0 := a) (b0 := b) six_ne six_ne
  obtain ⟨u, v⟩ := red_eq (t := a * 6 + b * 6) (b := 6 * 6) (t' := a + b) (b' := 6) (by decide) six_ne (by omega)
  exact ⟨x.trans u, y.trans v⟩
theorem six_neg (a : Int) : rT (-rT a 6) (rB a 6) = rT (-a) 6 ∧ rB (-rT a 6) (rB a 6) = rB (-a) 6 := neg_red six_ne
theorem six_int (n : Int) : rT (6 * n) 6 = n ∧ rB (6 * n) 6 = 1 := by
  obtain ⟨x, y⟩ := red_eq (t := 6 * n) (b := 6) (t' := n) (b' := 1) six_ne (by decide) (by omega)
  obtain ⟨u, v⟩ := red_one n
  exact ⟨x.trans u, y.trans v⟩
theorem six_cross (a : Int) : rT a 6 * 6 = a * rB a 6 := cross six_ne
theorem six_pos (a : Int) : 0 < rB a 6 := rB_pos six_ne
theorem six_is (a t : Int) : (6 * rT a 6 = t * rB a 6) ↔ a = t := by
  have h := six_cross a
  have p := six_pos a
  constructor
  · intro e
    have z : a * rB a 6 = t * rB a 6 := by omega
    exact Int.eq_of_mul_eq_mul_right (by omega) z
  · rintro rfl
    omega
theorem six_inj (a b : Int) : (rT a 6 = rT b 6 ∧ rB a 6 = rB b 6) ↔ a = b := by
  constructor
  · rintro ⟨x, y⟩
    have h := six_cross a
    have k := six_cross b
    rw [x, y] at h
    have p := six_pos b
    exact Int.eq_of_mul_eq_mul_right (by omega : rB b 6 ≠ 0) (by omega)
  · rintro rfl
    exact ⟨rfl, rfl⟩
theorem six_sign (a : Int) : (rT a 6 = 0 ↔ a = 0) ∧ (rT a 6 > 0 ↔ a > 0) := by
  have h := six_cross a
  have p := six_pos a
  refine ⟨rT_zero six_ne, ?_, ?_⟩
  · intro z
    have q : 0 < a * rB a 6 := by omega
    exact Int.pos_of_mul_pos_left q p
  · intro z
    have q : 0 < a * rB a 6 := Int.mul_pos z p
    omega
theorem six_le (a : Int) : (rT a 6).natAbs ≤ a.natAbs ∧ (rB a 6).natAbs ≤ 6 := ⟨rT_le six_ne, rB_le six_ne⟩
end K5

/-! k05: the text by places. -/
namespace K18
open PySem PySem.Spec PyProof.Rows L2 LamX K1

/-- a def of the text, no defaults -/
abbrev DefAt (K : PySem.W.Frag) (x qual : Str) (st : Stmt) (f : Addr) (fd : FuncData) : Prop := FunD K x qual (defArgs st) (defBody st) (defScope st) [] [] f fd
/-- built-in names that the module has not stored -/
structure Glob (mg : Str → Option Value) : Prop where
  abs : mg "abs" = none
  int : mg "int" = none
  len : mg "len" = none
  bool : mg "bool" = none
  repr : mg "repr" = none
  isi : mg "isinstance" = none
  range : mg "range" = none
  all : mg "all" = none
  lst : mg "list" = none
  tup : mg "tuple" = none
  set : mg "set" = none
  sorted : mg "sorted" = none
  min : mg "min" = none
  max : mg "max" = none
  zip : mg "zip" = none
  iter : mg "iter" = none
  str : mg "str" = none
  gcd : mg "gcd" = some (.builtin "math.gcd")
/-- a def of the module that is called by its name -/
structure Has (P : Program) (w : World) (K : PySem.W.Frag) (mg : Str → Option Value) (base : Heap) (CX : CXT) (k : Nat) (x : Str) (ps : List Str) (sp : Sp) : Prop where
  h : ∃ f fd, mg x = some (.ref f) ∧ PySem.W.keepIn K (.ref f) = true ∧ Binds K fd ps [] ∧ FnOk P w K mg base CX k f fd ps sp
theorem okN {P : Program} {w : World} {K : PySem.W.Frag} {mg : Str → Option Value} {base : Heap} {x qual : Str} {st : Stmt} {f : Addr} {fd : FuncData} {N ps : List Str} {k : Nat} {sp : Sp}
    (F : DefAt K x qual st f fd) (S : FnScope N ps (defScope st)) (len : ∀ vs H Q E, sp vs H Q E → vs.length = ps.length)
    (hb : ∀ (cdv : Value) (A : Around) (outer : List Env) (s : Shared) (H : Hp) (vs : List V) (Q : VK) (E : XK), Room k (A.deeper (envOfC qual (defScope st) s.heap.objs.size f cdv)) → sp vs H Q E →
      ∃ t, PSs (cxOf CX0 P w K mg base N qual (defScope st) f cdv A outer s H E).nox (defBody st) t ∧ t { nx := fun _ H' => Q .non H', rt := Q } (start N vs) H) : FnOk P w K mg base CX0 (k + 1) f fd ps sp :=
  F.ok S len fun cdv A outer s H vs Q E hr h => let ⟨t, h1, h2⟩ := hb cdv A outer s H vs Q E hr h; ⟨t, h1.nox, h2⟩
/-- a def that may raise -/
theorem okX {P : Program} {w : World} {K : PySem.W.Frag} {mg : Str → Option Value} {base : Heap} {x qual : Str} {st : Stmt} {f : Addr} {fd : FuncData} {N ps : List Str} {k : Nat} {sp : Sp}
    (F : DefAt K x qual st f fd) (S : FnScope N ps (defScope st)) (len : ∀ vs H Q E, sp vs H Q E → vs.length = ps.length)
    (hb : ∀ (cdv : Value) (A : Around) (outer : List Env) (s : Shared) (H : Hp) (vs : List V) (Q : VK) (E : XK), Room k (A.deeper (envOfC qual (defScope st) s.heap.objs.size f cdv)) → sp vs H Q E →
      ∃ t, PSs (cxOf (L2.CX P w) P w K mg base N qual (defScope st) f cdv A outer s H E) (defBody st) t ∧ t { nx := fun _ H' => Q .non H', rt := Q } (start N vs) H) : FnOk P w K mg base (L2.CX P w) (k + 1) f fd ps sp := by
  obtain ⟨oc, od, dV, kV, doc, pm, an, cdv, ct, osl, rfl, lk, hcd, _, _⟩ := F.ex
  exact fn_of lk hcd S len fun A outer s H vs Q E hr h => hb cdv A outer s H vs Q E hr h
theorem yes_of {σ : L2.St} {H : Hp} {F G : Hp → Prop} (h : F H) : tYes σ H (fun b H' => if b = true then F H' else G H') := h
theorem upd_new {H : Hp} {a : Addr} {o : HO} (h : H a = none) : Same H (upd H a o) := fun b u e => by rw [upd_ne (ne_of_none e h)]; exact e
end K18

/-! k18: lambdas with parameters, kept as values; x(lambda: ..). -/
namespace K18
open PySem PySem.Spec PyProof.Rows L2 LamX K1 NdefX

/-- a made lambda's words, cells, code -/
structure LF where
  q : Str
  ps : Arguments
  e : Expr
  sc : Scope
  cl : List (Str × Addr)
  c : Addr
abbrev LF.ob (F : LF) (pm ct : Value) : Obj := PySem.W.kla_obj "<lambda>" F.q F.ps F.e F.sc F.cl pm F.c ct
abbrev LF.nf (F : LF) : NF := ⟨"<lambda>", F.q, F.ps, [], F.sc, F.cl, F.c⟩
/-- at f stands that lambda -/
def LamO (f : Addr) (F : LF) : HO := .ext fun h => ∃ pm ct : Value, h.get? f = some (F.ob pm ct)
theorem lamO_at {P : Program} {w : World} {H : Hp} {h : Heap} {f : Addr} {F : LF} (ok : HOk P w H h) (e : H f = some (LamO f F)) : ∃ pm ct : Value, h.get? f = some (F.ob pm ct) := (ok f _ e).1
section
variable {X : Cx} {pins : List (Addr × Obj)} {σ : L2.St} {H : Hp} {s : Shared}
theorem lam_lay {F : LF} {pm ct : Value} {tk : Nat} (I : Inv X pins σ H s) : Inv X pins σ (upd H s.heap.objs.size (LamO s.heap.objs.size F)) { s with heap := s.heap.push (F.ob pm ct), toks := tk } := by
  have here : (s.heap.push (F.ob pm ct)).get? s.heap.objs.size = some (F.ob pm ct) := Heap.get?_push_size _ rfl
  exact I.laid (fun _ _ z => Heap.get?_push_of_some _ z) (Nat.le_refl _) ⟨⟨pm, ct, here⟩, ⟨_, here⟩, fun _ _ ⟨p, t, z⟩ st => ⟨p, t, st _ z⟩⟩
/-- a lambda made and kept -/
theorem lam_makeT {T : List (Addr × Str)} {c P : Addr} {params : Arguments} {body : Expr} {sc : Scope} {pos : Pos} {E Q : Value → Shared → Prop} (I : Inv X pins σ H s) (B : TabB X.base X.mg c P) (ec : X.env.code = .ref c)
    (inT : (P, X.env.qual ++ "<lambda>") ∈ T) (one : ∀ p ∈ T, p.1 = P → p.2 = X.env.qual ++ "<lambda>") (tabs : Tabs T H) (nod : defaultsOf params X.env = ([], [])) (fr : ∀ y ∈ sc.names, y.2 = .free → ∃ c, X.env.cells.lookup y.1 = some c)
    (k : ∀ (f c' : Addr) (H1 : Hp) (s' : Shared), Inv X pins σ H1 s' → ExtN H H1 → Tabs T H1 → H f = none → H1 f = some (LamO f ⟨X.env.qual ++ "<lambda>", params, body, sc, cloFrom X.env.cells sc.names [], c'⟩) → H1 c' = some (CodeO c' (X.env.qual ++ "<lambda>")) → Q (.ref f) s') :
    wpAny (model X.prog X.w) X.A (eval (.Lambda params body sc pos) X.env) Q E s := by
  obtain ⟨tb, tP, tO, tA⟩ := (show TabS H P (X.env.qual ++ "<lambda>") from tabs _ inT)
  refine PySem.W.kla_eval nod ?_
  have hp : s.heap.get? P = some { cls := .none, data := .fields tb } := I.hok P _ tP
  have bb : s.heap.BuiltinsAt X.mg P := B.bm.keeps I.bk
  cases am : codeAmong pos tb.toList with
  | some cv =>
    obtain ⟨c', rfl, co⟩ := tA pos cv am
    refine PySem.W.kla_makeFunctionHit (mg := X.mg) (c := c) (P := P) (ps := tb) (closure_ok fr) I.ok.glob (I.mod.glob.keeps I.bk) ec (B.code.keeps I.bk) hp tO am bb fun ct h1 tk kp _ => ?_
    have J : Inv X pins σ H { s with heap := h1, toks := tk } := I.kept kp
    have nf := J.hok.fresh (Nat.le_refl _)
    have J2 := lam_lay (F := ⟨X.env.qual ++ "<lambda>", params, body, sc, cloFrom X.env.cells sc.names [], c'⟩) (pm := (X.mg "__name__").getD .none) (ct := ct) (tk := tk) J
    exact k _ c' _ _ J2 (fun b o e _ => (upd_ne (ne_of_none e nf)).trans e) (tabs.ext fun b o e => (upd_ne (ne_of_none e nf)).trans e) nf upd_same ((upd_ne (ne_of_none co nf)).trans co)
  | none =>
    refine PySem.W.kla_makeFunction (mg := X.mg) (c := c) (P := P) (ps := tb) (closure_ok fr) I.ok.glob (I.mod.glob.keeps I.bk) ec (B.code.keeps I.bk) hp tO am B.gP bb fun c' ct h1 tk kp g1 g2 rec_ htb => ?_
    obtain ⟨c2, oc, vs, t, e2, o1, o2, o3⟩ := rec_
    cases e2
    have nC : H c' = none := I.hok.fresh g1
    have J := inv_table (t' := tk) (more := #[rawInt pos.line, rawInt pos.col, .ref c']) (h' := h1) I tP (fun b o nb e => kp b o nb e) htb g1 ⟨oc, vs, t, o1, o2, o3⟩
    have ext : ExtN H (upd (upd H P (.tbl (tb ++ #[rawInt pos.line, rawInt pos.col, .ref c']))) c' (CodeO c' (X.env.qual ++ "<lambda>"))) := fun b o e n => by
      rw [upd_ne (ne_of_none e nC), upd_ne (fun z => n tb (Option.some.inj (e.symm.trans (by rw [z]; exact tP))))]
      exact e
    have lst : (tb ++ #[rawInt pos.line, rawInt pos.col, .ref c']).toList = tb.toList ++ [rawInt pos.line, rawInt pos.col, .ref c'] := by simp
    have T1 : Tabs T (upd (upd H P (.tbl (tb ++ #[rawInt pos.line, rawInt pos.col, .ref c']))) c' (CodeO c' (X.env.qual ++ "<lambda>"))) := fun p hp => by
      by_cases hb : p.1 = P
      · rw [one p hp hb, hb]
        refine ⟨_, (upd_ne (ne_of_none tP nC)).trans upd_same, by rw [lst]; exact PySem.TriplesOk_snoc _ _ _ _ tO, fun pz cv hc => ?_⟩
        rw [lst] at hc
        exact (among_app _ tO hc).elim (fun z => let ⟨c0, e1, e2⟩ := tA pz cv z; ⟨c0, e1, ext _ _ e2 codeO_ne⟩) fun z => ⟨c', z, upd_same⟩
      · obtain ⟨qs, a1, a2, a3⟩ := tabs p hp
        exact ⟨qs, by rw [upd_ne (ne_of_none a1 nC), upd_ne hb]; exact a1, a2, fun pz cv hc => let ⟨c0, e1, e2⟩ := a3 pz cv hc; ⟨c0, e1, ext _ _ e2 codeO_ne⟩⟩
    have nf := J.hok.fresh (Nat.le_refl _)
    have J2 := lam_lay (F := ⟨X.env.qual ++ "<lambda>", params, body, sc, cloFrom X.env.cells sc.names [], c'⟩) (pm := (X.mg "__name__").getD .none) (ct := ct) (tk := tk) J
    exact k _ c' _ _ J2 (fun b o e n => (upd_ne (ne_of_none (ext b o e n) nf)).trans (ext b o e n)) (T1.ext fun b o e => (upd_ne (ne_of_none e nf)).trans e) (I.hok.fresh (Nat.le_trans g1 (Nat.le_of_lt g2))) upd_same ((upd_ne (Nat.ne_of_lt g2)).trans upd_same)
end
def tLamV (T : List (Addr × Str)) (mk : Addr → LF) : TE := fun σ H Q => Tabs T H ∧ ∀ (f c' : Addr) (H1 : Hp), ExtN H H1 → Tabs T H1 → H f = none → H1 f = some (LamO f (mk c')) → H1 c' = some (CodeO c' (mk c').q) → Q (.ref f) H1
/-- the free names of a lambda are cells of the def -/
def lamFB (sc nsc : Scope) : Bool := nsc.names.all fun y => !decide (y.2 = .free) || decide (sc.names.lookup y.1 = some .cell) || decide (sc.names.lookup y.1 = some .free)
theorem lamF_ok {sc nsc : Scope} (h : lamFB sc nsc = true) : ∀ y ∈ nsc.names, y.2 = .free → sc.names.lookup y.1 = some .cell ∨ sc.names.lookup y.1 = some .free := fun y hy e => by
  have z := List.all_eq_true.mp h y hy
  simp only [Bool.or_eq_true, Bool.not_eq_true', decide_eq_true_eq, decide_eq_false_iff_not] at z
  exact z.elim (fun z => z.elim (fun z => absurd e z) .inl) .inr
theorem pe_lamV {X : Cx} {T : List (Addr × Str)} {c P : Addr} {params : Arguments} {body : Expr} {sc : Scope} {pos : Pos} (B : TabB X.base X.mg c P) (ec : X.env.code = .ref c)
    (inT : (P, X.env.qual ++ "<lambda>") ∈ T) (one : ∀ p ∈ T, p.1 = P → p.2 = X.env.qual ++ "<lambda>") (fr : lamFB X.env.scope sc = true) (nod : defaultsOf params X.env = ([], []) := by rfl) :
    PE X (.Lambda params body sc pos) (tLamV T fun c' => ⟨X.env.qual ++ "<lambda>", params, body, sc, cloFrom X.env.cells sc.names [], c'⟩) :=
  ⟨fun pins s σ H Q I ⟨t, k⟩ => lam_makeT I B ec inT one t nod (fun y hy e => (lamF_ok fr y hy e).elim (fun z => I.ok.has _ (.inl z)) fun z => I.ok.has _ (.inr z)) fun f c' H1 s' J x t1 n a b => ⟨.ref f, H1, J, rfl, k f c' H1 x t1 n a b⟩⟩

/-! ### calls of such -/
theorem cells_un {cl : List (Str × Addr)} {fr : List Str} {ws : List (Option V)} {h h' : Heap} {H H' : Hp} {fs : List Addr} (C : CellsAt cl fr ws h H) (U : Un fs [] H H' h h') : CellsAt cl fr ws h' H' := by
  have kp : ∀ y c, cl.lookup y = some c → ∀ v, h.IsCell c v → h'.IsCell c v := fun y c e v ⟨o, ho, hd⟩ => by
    obtain ⟨sl, z⟩ := U.any ho (C.all y c e).1 (by simp)
    exact ⟨_, z, hd⟩
  refine ⟨C.len, fun y c e => ?_, C.inj, fun i y e => ?_⟩
  · obtain ⟨n, v, z⟩ := C.all y c e
    obtain ⟨o, ho, _⟩ := id z
    exact ⟨U.free c o ho n (by simp), v, kp y c e v z⟩
  · obtain ⟨c, hc, hv⟩ := C.has i y e
    exact ⟨c, hc, fun v ev => let ⟨u, r, z⟩ := hv v ev; ⟨u, r, kp y c hc _ z⟩⟩
structure LOk (P : Program) (w : World) (K : PySem.W.Frag) (mg : Str → Option Value) (base : Heap) (CX : CXT) (k : Nat) (F : LF) (ps fr : List Str) (sp : List (Option V) → Sp) : Prop where
  run : ∀ (f : Addr) (A : Around) (outer : List Env) (s : Shared) (H : Hp) (us : List Value) (vs : List V) (ws : List (Option V)) (Q : VK) (E : XK), Room k A → Env0 P w K mg base A outer s H → H f = some (LamO f F) → H F.c = some (CodeO F.c F.q) →
    CellsAt F.cl fr ws s.heap H → Vals vs us → sp ws vs H Q E → codeAny (model P w) A (.call (.ref f) ⟨us, []⟩) (CR CX outer P w H s Q E) s
section
variable {CX : CXT} {P : Program} {w : World} {K : PySem.W.Frag} {mg : Str → Option Value} {base : Heap} {N ps fr : List Str} {F : LF} {k : Nat} {sp : List (Option V) → Sp}
theorem lok_of (S : NScope N ps fr F.sc) (hb : ∀ (pm ct : Value) (us : List Value), us.length = ps.length → bindArgs (PySem.W.kla_fn "<lambda>" F.q F.ps F.e F.sc F.cl pm (.ref F.c) ct) ⟨us, []⟩ = pure (ps.zip us)) (len : ∀ ws vs H Q E, sp ws vs H Q E → vs.length = ps.length)
    (body : ∀ (f : Addr) (A : Around) (outer : List Env) (s : Shared) (H : Hp) (vs : List V) (ws : List (Option V)) (Q : VK) (E : XK), Room k (A.deeper (envF F.nf f s.heap.objs.size)) → ws.length = fr.length → sp ws vs H Q E →
      ∃ t, PE (ncx CX P w K mg base N F.nf f A outer s H E) F.e t ∧ t (startF N vs ws) H Q) : LOk P w K mg base CX (k + 1) F ps fr sp := by
  refine ⟨fun f A outer s H us vs ws Q E hr e0 hf hc C r hsp => ?_⟩
  have hl := len _ _ _ _ _ hsp
  have lim : s.heap.NoLimit := e0.mod.nolimit.keeps fun b o e => (e0.bs b o e).1
  obtain ⟨pm, ct, ho⟩ := lamO_at e0.hok hf
  obtain ⟨oc, cv, t, g1, g2, g3⟩ := (e0.hok F.c _ hc).1
  refine PySem.W.kla_callFunE hr.depth ho rfl S.co S.gen rfl ⟨F.c, oc, cv, t, rfl, g1, g2, g3⟩ ?_
  rw [hb pm ct us (by rw [← r.length]; exact hl)]
  refine wpAny_pure (wpAny_newFunctionEnv S.nocell (fun ⟨n, _⟩ hy => S.par n (List.of_mem_zip hy).1) (fun h₁ hns hsb => ⟨lim.fresh _ hsb, ?_⟩) S.kind)
  have kp : ∀ b o, s.heap.get? b = some o → h₁.get? b = some o := fun b o q => hsb.extBut b o (Nat.ne_of_lt (Heap.lt_size q)) (Heap.get?_push_of_some _ q)
  obtain ⟨t, ht, hq⟩ := body f A outer s H vs ws Q E (hr.deeper _) C.len hsp
  have J : Inv (ncx CX P w K mg base N F.nf f A outer s H E) [] (startF N vs ws) H { s with heap := h₁, toks := s.toks + (ps.zip us).length } := inv_startN S hr.hd e0 hl r C hns kp
  show codeAny _ _ (.expr F.e (envF F.nf f s.heap.objs.size)) _ _
  exact PySem.W.kla_codeExpr (wpAny_mono (ht.run [] _ _ H Q J hq) (fun v s2 ⟨w1, H2, J2, rv, q2⟩ => ⟨w1, H2, J2.os, J2.bare, J2.base, J2.hok, rv, q2⟩) fun _ _ q => q)
end
/-- x(e, ..), x a name that holds one of the lambdas of OK; what their cells held at the frame's entry is known -/
def tCallV (i : Nat) (OK : LF → Prop) (sp : LF → List (Option V) → Sp) (ws : List (Option V)) (E : XK) (t : TA) : TE := fun σ H Q => ∃ (f : Addr) (F : LF), σ[i]? = some (some (.ref f)) ∧ OK F ∧ H f = some (LamO f F) ∧
  t σ H fun vs H1 => H1 f = some (LamO f F) ∧ H1 F.c = some (CodeO F.c F.q) ∧ sp F ws vs H1 Q E
theorem pe_callV {X : Cx} {CX : CXT} {OK : LF → Prop} {cl : List (Str × Addr)} {ps fr : List Str} {ws : List (Option V)} {i j k : Nat} {x : Str} {sp : LF → List (Option V) → Sp} {E : XK} {t : TA} {e : Expr} {es : List Expr} {p pos : Pos} (hex : X.ex = [])
    (C : ∀ F, OK F → CellsAt F.cl fr ws X.s_0.heap X.H_0) (L : ∀ F, OK F → LOk X.prog X.w X.K X.mg X.base CX k F ps fr (sp F)) (hr : Room j X.A) (hk : k ≤ j) (hx : Passes CX X E) (hN : X.N[i]? = some x) (hv : Vis X.env.scope x) (ha : PA X (e :: es) t)
    (hd : (x == ("__debug__" : Str)) = false := by decide) (hcd : (x == ("__classdict__" : Str)) = false := by decide)
    (he : starEach (e :: es) X.env = (false, eval e X.env) :: starEach es X.env := by rfl) (hpl : (backTo pos (starEach es X.env)).any (·.1) = false := by rfl) :
    PE X (.Call (.Name x p) (e :: es) [] pos) (tCallV i OK sp ws E t) := by
  refine ⟨fun pins s σ H Q I ⟨f, F, hs, ok, hf, ht⟩ => ?_⟩
  refine wpAny_Call_Name_kw (thn ((pe_var (pos := p) hN hv hd hcd).run pins s σ H (fun v H1 => v = .ref f ∧ H1 = H) I ⟨.ref f, hs, rfl, rfl⟩) fun u s1 ⟨v, H1, I1, r1, ev, eH⟩ => ?_)
  subst ev eH
  obtain rfl : u = Value.ref f := r1
  have fa : ∀ {H' : Hp} {s' : Shared}, HOk X.prog X.w H' s'.heap → H' f = some (LamO f F) → PySem.W.FnAt f s'.heap := fun ok e => let ⟨_, _, z⟩ := lamO_at ok e; ⟨_, _, _, _, z⟩
  refine PySem.W.callWith_F (first := []) (fa I1.hok hf) (thn (ha.run pos pins s1 σ H1 _ I1 ht) fun us s2 ⟨vs, H2, I2, r, h1, h2, q⟩ => ⟨fa I2.hok h1, ?_⟩) he hpl
  have U : Un X.fs [] X.H_0 H2 X.s_0.heap s2.heap := by
    have z := I2.base
    rw [hex] at z
    exact z
  refine wpAny_call (codeAny_mono ((L F ok).run f X.A X.stack s2 H2 us vs ws Q E (hr.mono hk) I2.env0 h1 h2 (cells_un (C F ok) U) r q) fun r s' hq => ?_)
  cases r with
  | error e => exact hx pins σ H2 s2 e s' I2 hq
  | ok fl => cases fl <;> first | exact I2.after hq | exact False.elim hq
end K18

/-! k18: f(lambda: body), f a def of one parameter that calls what it gets; the body may call what the def holds. -/
namespace K18
open PySem PySem.Spec PyProof.Rows L2 LamX K1 NdefX

/-- at the lambda's entry: what the cells of the def X held at the slots σ they hold in h -/
def CellF (X : Cx) (σ : L2.St) (h : Heap) (H : Hp) : Prop := ∀ (cl : List (Str × Addr)) (fr : List Str) (js : List Nat), (X.Ok → Caps X cl fr js) → CellsAt cl fr (js.map (slotAt σ)) h H
theorem pe_act1 {X : Cx} {pins0 : List (Addr × Obj)} {σ0 : L2.St} {H0 : Hp} {s0 : Shared} {CXg : CXT} {Eg : XK} {Ng : List Str} {qg a : Str} {sg scope : Scope} {g f c2 : Addr} {cdg pm ctv : Value} {params : Arguments} {body : Expr} {k i : Nat} {pn : List (Addr × Obj)} {xe : Value → Shared → Prop} {W : WX}
    {tb : XK → TE} {p1 p2 : Pos} (I0 : Inv X pins0 σ0 H0 s0) (L : LamS X.env.scope scope) (hf : s0.heap.get? f = some (PySem.W.kla_obj "<lambda>" (X.env.qual ++ "<lambda>") params body scope (cloFrom X.env.cells scope.names []) pm c2 ctv)) (nf : H0 f = none) (ns : f ∉ frs X.stack)
    (nb : bindArgs (PySem.W.kla_fn "<lambda>" (X.env.qual ++ "<lambda>") params body scope (cloFrom X.env.cells scope.names []) pm (.ref c2) ctv) ⟨[], []⟩ = pure []) (tk : Takes ((cxOf CXg X.prog X.w X.K X.mg X.base Ng qg sg g cdg X.A X.stack s0 H0 Eg).tr pn xe) W)
    (hr : Room (k + 1) (X.A.deeper (envOfC qg sg s0.heap.objs.size g cdg))) (hb : ∀ (A : Around) (outer : List Env) (s : Shared) (H : Hp) (E : XK), Room k (A.deeper (lamEnv X scope s.heap.objs.size f c2)) → CellF X σ0 s.heap H → PE (lamCx X A outer s H E scope f c2) body (tb E))
    (hN : Ng[i]? = some a) (hv : Vis sg a) (hd : (a == ("__debug__" : Str)) = false) (hcd : (a == ("__classdict__" : Str)) = false) :
    PE ((cxOf CXg X.prog X.w X.K X.mg X.base Ng qg sg g cdg X.A X.stack s0 H0 Eg).tr pn xe) (.Call (.Name a p1) [] [] p2) (fun σ H Q => σ[i]? = some (some (.ref f)) ∧ H c2 = some (CodeO c2 (X.env.qual ++ "<lambda>")) ∧ tb (WE W σ) σ0 H Q) := by
  refine ⟨fun pZ sZ σZ HZ Q IZ ⟨z1, z2, z3⟩ => ?_⟩
  refine wpAny_Call_Name_kw (thn ((pe_var (pos := p1) (i := i) hN hv hd hcd).run pZ sZ σZ HZ (fun v H1 => v = .ref f ∧ H1 = HZ) IZ ⟨.ref f, z1, rfl, rfl⟩) fun u s1 ⟨v, H1, I1, r1, e1, e2⟩ => ?_)
  subst e1 e2
  obtain rfl : u = Value.ref f := r1
  have at1 : s1.heap.get? f = some (PySem.W.kla_obj "<lambda>" (X.env.qual ++ "<lambda>") params body scope (cloFrom X.env.cells scope.names []) pm c2 ctv) := I1.base.keep f _ hf nf ns fun z => nomatch (show f ∈ ([] : List Addr) from z)
  refine PySem.W.callWith_F0 ⟨_, _, _, _, at1⟩ ?_
  have U : Un (frs X.stack) [] H0 H1 s0.heap s1.heap := I1.base
  have cf : CellF X σ0 s1.heap H1 := fun cl fr js cp => cells_un (cells_of I0 (cp I0.ok)) U
  obtain ⟨⟨oc, cvs, ct, g1, g2, g3⟩, _, _⟩ := I1.hok c2 _ z2
  have run : codeAny (model X.prog X.w) (X.A.deeper (envOfC qg sg s0.heap.objs.size g cdg)) (.call (.ref f) ⟨[], []⟩) (CR (L2.CX X.prog X.w) (envOfC qg sg s0.heap.objs.size g cdg :: X.stack) X.prog X.w H1 s1 Q (WE W σZ)) s1 := by
    refine PySem.W.kla_callFunE hr.depth at1 rfl L.co L.gen rfl ⟨c2, oc, cvs, ct, rfl, g1, g2, g3⟩ (by
      rw [nb]
      refine wpAny_pure (wpAny_newFunctionEnv (fun y hy => (L.own y hy).2) (fun y hy => absurd hy (by simp)) (fun hp hns hsb => ⟨I1.nolimit.fresh _ hsb, ?_⟩) L.kind)
      have kept : ∀ b o, s1.heap.get? b = some o → hp.get? b = some o := fun b o q => hsb.extBut b o (Nat.ne_of_lt (Heap.lt_size q)) (Heap.get?_push_of_some _ q)
      have J : Inv (lamCx X (X.A.deeper (envOfC qg sg s0.heap.objs.size g cdg)) (envOfC qg sg s0.heap.objs.size g cdg :: X.stack) s1 H1 (WE W σZ) scope f c2) [] σ0 H1 { s1 with heap := hp, toks := s1.toks + ([] : List (Str × Value)).length } := lam_start2 I0 L I1.env0 hr.hd U hns kept
      show codeAny _ _ (.expr body (lamEnv X scope s1.heap.objs.size f c2)) _ _
      refine PySem.W.kla_codeExpr (wpAny_mono ((hb _ _ s1 H1 _ (hr.deeper _) cf).run [] _ _ H1 Q J z3) (fun v s2 ⟨w1, H2, J2, rv, q2⟩ => ⟨w1, H2, J2.os, J2.bare, J2.base, J2.hok, rv, q2⟩) fun _ _ q => q))
  refine wpAny_call (codeAny_mono run fun r s2 hq => ?_)
  rcases r with e | fl
  · exact passAt tk σZ pZ H1 s1 e s2 I1 hq
  · cases fl <;> first | exact I1.after hq | exact False.elim hq
/-- the def of one parameter that calls what it got -/
def Gives1 (X : Cx) (Ng : List Str) (x : Str) (sg : Scope) (g : Addr) (cdg : Value) (bg : List Stmt) (a : Str) (q : Str) (TT : (XK → Hp → VK → Prop) → Hp → VK → Prop) : Prop :=
  ∀ (f c' : Addr) (s : Shared) (H : Hp) (Q : VK) (tl : XK → Hp → VK → Prop),
    (∀ (W : WX) (pn : List (Addr × Obj)) (xe : Value → Shared → Prop) (p1 p2 : Pos), Takes ((cxOf C8.CX0 X.prog X.w X.K X.mg X.base Ng x sg g cdg X.A X.stack s H C8.E0).tr pn xe) W →
      PE ((cxOf C8.CX0 X.prog X.w X.K X.mg X.base Ng x sg g cdg X.A X.stack s H C8.E0).tr pn xe) (.Call (.Name a p1) [] [] p2) (fun σZ HZ Q => σZ[0]? = some (some (.ref f)) ∧ HZ c' = some (CodeO c' q) ∧ tl (WE W σZ) HZ Q)) →
    H c' = some (CodeO c' q) → TT tl H Q →
    ∃ t, PSs (cxOf C8.CX0 X.prog X.w X.K X.mg X.base Ng x sg g cdg X.A X.stack s H C8.E0).nox bg t ∧ t { nx := fun _ H' => Q .non H', rt := Q } (L2.start Ng [.ref f]) H
theorem pe_lam1 {X : Cx} {T : List (Addr × Str)} {TT : (XK → Hp → VK → Prop) → Hp → VK → Prop} {x a : Str} {g c P : Addr} {k : Nat} {pg : Arguments} {bg : List Stmt} {sg : Scope} {dV kV doc pm cdv ct oc : Value} {an od : Option Addr} {osl : Array (Option Value)} {Ng : List Str}
    {params : Arguments} {body : Expr} {scope : Scope} {t : XK → TE} {p lpos pos : Pos} (hg : Gl X x) (hm : X.mg x = some (.ref g)) (hk : PySem.W.keepIn X.K (.ref g) = true)
    (lk : X.K.lookup g = some ⟨oc, od, .func (PySem.W.fnOf x x pg bg sg dV kV doc pm an cdv ct), osl⟩) (hcg : PySem.W.codeIn X.K cdv x = true) (hb : L2.Binds X.K (PySem.W.fnOf x x pg bg sg dV kV doc pm an cdv ct) [a] []) (Sg : FnScope Ng [a] sg) (hNg : Ng[0]? = some a) (hva : Vis sg a)
    (hG : Gives1 X Ng x sg g cdv bg a (X.env.qual ++ "<lambda>") TT)
    (TB : TabB X.base X.mg c P) (hcode : X.env.code = .ref c) (hmT : (P, X.env.qual ++ "<lambda>") ∈ T) (hu : ∀ p ∈ T, p.1 = P → p.2 = X.env.qual ++ "<lambda>") (hr : Room (k + 2) X.A) (L : LamS X.env.scope scope) (hdef : defaultsOf params X.env = ([], []))
    (hbind : ∀ (q : Str) (cl : List (Str × Addr)) (pm cv ctv : Value), bindArgs (PySem.W.kla_fn "<lambda>" q params body scope cl pm cv ctv) ⟨[], []⟩ = pure [])
    (hbody : ∀ (σ0 : L2.St) (A : Around) (outer : List Env) (s : Shared) (H : Hp) (E : XK) (f c' : Addr), Room k (A.deeper (lamEnv X scope s.heap.objs.size f c')) → CellF X σ0 s.heap H → PE (lamCx X A outer s H E scope f c') body (fun σ H' Q => σ = σ0 ∧ t E σ H' Q))
    (hdb : (x == ("__debug__" : Str)) = false := by decide) (hd : (a == ("__debug__" : Str)) = false := by decide) (hcd : (a == ("__classdict__" : Str)) = false := by decide) :
    PE X (.Call (.Name x p) [.Lambda params body scope lpos] [] pos) (tLam T TT t) := by
  refine ⟨fun pins s σ H Q I ⟨hT, h⟩ => ?_⟩
  refine wpAny_Call_Name_kw (ld_glob I hg hm ?_ hdb)
  refine PySem.W.callWith_K (h₀ := X.base) I.ok.mod.kin hk ?_ (by rfl) (by rfl)
  show wpAny _ _ (spliced ((false, eval (.Lambda params body scope lpos) X.env) :: (backTo pos (starEach [] X.env)))) _ _ s
  refine Calls.spliced_cons (lam_make2 I TB hcode hmT hu hT hdef (L.has I.ok) fun f c' pm' ctv H1 s' I1 eN T1 hf hfn hfr hco => ?_)
  refine Calls.spliced_nil ⟨I1.kIn, ?_⟩
  have rc : codeAny (model X.prog X.w) X.A (.call (.ref g) ⟨[.ref f], []⟩) (CR C8.CX0 X.stack X.prog X.w H1 s' Q C8.E0) s' := by
    refine run_ofS (N := Ng) (ps := [a]) (us := [.ref f]) (vs := [.ref f]) lk hcg Sg hr I1.env0 (hb _ [.ref f] I1.kIn rfl) (.cons rfl .nil) rfl fun hr2 => ?_
    obtain ⟨t', ht', hq'⟩ := hG f c' _ H1 Q (fun E H' Q' => σ = σ ∧ t E σ H' Q')
      (fun W pn xe p1 p2 tk => pe_act1 (i := 0) I1 L hf hfn hfr (hbind _ _ _ _ _) tk hr2 (fun A outer s H E hr3 cf => hbody σ A outer s H E f c' hr3 cf) hNg hva hd hcd) hco ((h H1 eN T1) |> fun z => by
        simpa using z)
    exact ⟨t', ht'.nox, hq'⟩
  refine wpAny_call (codeAny_mono rc fun r s2 hq => ?_)
  cases r with
  | error e => exact (show False from hq).elim
  | ok fl => cases fl <;> first | exact I1.after hq | exact (show False from hq).elim
/-- a reading at the slots of the making -/
theorem pe_at {X : Cx} {e : Expr} {t t0 : TE} {σ0 : L2.St} (h : PE X e t0) (k : ∀ H Q, t σ0 H Q → t0 σ0 H Q) : PE X e (fun σ H Q => σ = σ0 ∧ t σ H Q) :=
  ⟨fun pins s σ H Q I ⟨e, q⟩ => h.run pins s σ H Q I (by subst e; exact k H Q q)⟩
end K18

/-! k18: sets made by comprehensions, one clause and two; sets of pairs. -/
namespace K18
open PySem PySem.Spec PyProof.Rows L2 LamX K1 PpSet

/-- the new set's object -/
abbrev newSetObj (w : World) : Obj := { cls := .type "set", dict := none, data := .set #[] 0 (.fresh 0 0 (!w.params.followText "set-order")) }
/-- a kind of sets: the empty one at D; add's promise -/
structure SKind (P : Program) (w : World) (K : PySem.W.Frag) where
  z : Addr → HO
  r : V → List V → Hp → VK → Prop
  fresh : ∀ (H : Hp) (h : Heap), ObjOk P w (upd H h.objs.size (z h.objs.size)) (h.push (newSetObj w)) h.objs.size (z h.objs.size)
  add : ∀ Y : Cx, Y.prog = P → Y.w = w → Y.K = K → Y.A.units + 64 < cLine → MtR Y "set.add" r
section
variable {X : Cx}
/-- {elt for tg in iter if ..} -/
def tSetC (r : V → List V → Hp → VK → Prop) (z : Addr → HO) (wi : TI) (g : TG) (tt : TT) (te : TE) (vs : List Nat) : TE := fun σ H Q => wi σ H fun J H1 => ∀ D, H1 D = none → ∃ W : Nat → Nat → Hp → Prop, (∃ m, W 0 m (upd H1 D (z D))) ∧ ∀ i m H, W i m H →
  (J.stop i H ∧ Q (.ref D) H) ∨ (J.go i H ∧ ∃ Nx : Hp → Prop, (∀ H', Nx H' → ∃ m', m' < m ∧ W (i + 1) m' H') ∧ ∀ x H', J.yld i H x H' → g x (wipe σ vs) H' fun σ2 H2 => wipe σ2 vs = wipe σ vs ∧ tt σ2 H2 fun b H3 =>
    if b = true then te σ2 H3 fun y H4 => r (.ref D) [y] H4 fun _ H5 => Nx H5 else Nx H3)
theorem setc_core (S : SKind X.prog X.w X.K) {pins : List (Addr × Obj)} {s : Shared} {σ : L2.St} {H : Hp} {Q : VK} {elt tg iter : Expr} {ifs : List Expr} {scope : Scope} {own : List (PySem.Str × Nat)} {pos pos' : Pos} {wi : TI} {g : TG} {tt : TT} {te : TE} {use : Option (Value → Sem Unit)} {Qf : Value → Shared → Prop}
    (hu : X.A.units + 64 < cLine) (hc : X.calm = true) (hN : X.N.Nodup) (I : Inv X pins σ H s) (hi : PI X tg iter wi) (ok : BlkOk X.N X.env.scope scope own)
    (hg : ∀ (s : Shared) (H : Hp) (C : Addr) (cl : List (PySem.Str × Addr)) (fp : List Addr), PG (X.blk s H scope (compEnvC scope cl C X.env) fp) tg g) (ht : ∀ (s : Shared) (H : Hp) (C : Addr) (cl : List (PySem.Str × Addr)) (fp : List Addr), PTs (X.blk s H scope (compEnvC scope cl C X.env) fp) ifs tt)
    (he : ∀ (s : Shared) (H : Hp) (C : Addr) (cl : List (PySem.Str × Addr)) (fp : List Addr), PE (X.blk s H scope (compEnvC scope cl C X.env) fp) elt te) (hs : ∀ x, foldedSetIterable iter X.env x = pure x)
    (h : tSetC S.r S.z wi g tt te (own.map (·.2)) σ H Q)
    (hRR : ∀ D C s' m H', Inv X pins σ H' s' → Q (.ref D) H' → s'.heap.Ns C m → FpOk X pins H' C → compPost (model X.prog X.w) X.A X.xe use Qf (.ref D) C (.ok .next) s') :
    wpAny (model X.prog X.w) X.A (comprehension (.SetComp elt [⟨tg, iter, ifs, 0⟩] scope pos) scope X.env pos' (newSet (.type "set")) false (eval iter X.env) use) Qf X.xe s := by
  have cellsThere : ∀ y ∈ scope.names, y.2 = .free → ∃ c, X.env.cells.lookup y.1 = some c := fun y hy e => (ok.free y hy e).elim (fun k => I.ok.has _ (.inl k)) fun k => I.ok.has _ (.inr k)
  refine wpAny_comprehension_free (use := use) rfl hs (closure_ok cellsThere) ok.kind (fun y hy e => by rw [ok.uniq y hy, e])
    (thn (hi.run pins s σ H _ I h) fun xv sa hx => thn hx fun itv sb hb => ?_)
  obtain ⟨it, fp, tn, J, Hb, e, Ib, T, stb, fpb, q⟩ := hb
  subst e
  refine newSet_ok (newEnv_comp ?_)
  generalize eD : sb.heap.objs.size = D
  have Dn : Hb D = none := Ib.hok.fresh (Nat.le_of_eq eD)
  obtain ⟨W, ⟨m0, w0⟩, turn⟩ := q D Dn
  generalize esc : ({ sb with heap := sb.heap.push (newSetObj X.w) } : Shared) = sc
  have Ic : Inv X pins σ (upd Hb D (S.z D)) sc := by
    rw [← esc]
    refine Ib.laid (t' := sb.toks) (fun b o e => Heap.get?_push_of_some _ e) (Nat.le_of_eq eD) ?_
    rw [← eD]
    exact S.fresh _ _
  have hsc : sc.heap = sb.heap.push (newSetObj X.w) := by rw [← esc]
  have below : ∀ b ∈ fp, b < sb.heap.objs.size := fun b hb => let ⟨o, e, _⟩ := T.obj _ _ stb b hb; Heap.lt_size e
  have fpc : ∀ b ∈ fp, FpOk X pins (upd Hb D (S.z D)) b ∧ b < sc.heap.objs.size := fun b hb => by
    have l := below b hb
    refine ⟨⟨?_, (fpb b hb).2⟩, by rw [hsc, Heap.size_push]; exact Nat.lt_succ_of_lt l⟩
    rw [upd_ne (by rw [← eD]; exact Nat.ne_of_lt l)]
    exact (fpb b hb).1
  have stc : tn 0 sc.heap := T.keep _ _ _ stb fun b _ o e => by rw [hsc]; exact Heap.get?_push_of_some _ e
  have Id := block_start Ic ok hN fpc
  have pg := hg sc (upd Hb D (S.z D)) sc.heap.objs.size (cellsFrom (sc.heap.objs.size + 1) scope.names (cloFrom X.env.cells scope.names [])) fp
  have pt := ht sc (upd Hb D (S.z D)) sc.heap.objs.size (cellsFrom (sc.heap.objs.size + 1) scope.names (cloFrom X.env.cells scope.names [])) fp
  have pe := he sc (upd Hb D (S.z D)) sc.heap.objs.size (cellsFrom (sc.heap.objs.size + 1) scope.names (cloFrom X.env.cells scope.names [])) fp
  show codeAny _ _ (.compStart (.SetComp elt [⟨tg, iter, ifs, 0⟩] scope pos) 0 (.ref it) (.ref D) (compEnvC scope (cellsFrom (sc.heap.objs.size + 1) scope.names (cloFrom X.env.cells scope.names [])) sc.heap.objs.size X.env)) (compPost (model X.prog X.w) X.A X.xe use Qf (.ref D) sc.heap.objs.size) { sc with heap := pushCells (sc.heap.push { cls := .type "dict", data := .dict #[] }) scope.names }
  have nfp : ∀ b ∈ fp, (upd Hb D (S.z D)) b = none := fun b hb => (fpc b hb).1.1
  generalize hce : compEnvC scope (cellsFrom (sc.heap.objs.size + 1) scope.names (cloFrom X.env.cells scope.names [])) sc.heap.objs.size X.env = ce at Id pg pt pe ⊢
  have loc : ce.locals = sc.heap.objs.size := by subst hce; rfl
  generalize eHc : upd Hb D (S.z D) = Hc at Ic Id pg pt pe w0 nfp fpc
  generalize esd : ({ sc with heap := pushCells (sc.heap.push { cls := .type "dict", data := .dict #[] }) scope.names } : Shared) = sd at Id ⊢
  have std : tn 0 sd.heap := T.keep _ _ _ stc fun b _ o e => by rw [← esd]; exact pushCells_keeps _ _ _ _ (Heap.get?_push_of_some _ e)
  have stat : ∀ {σ' : L2.St} {H' : Hp} {s' : Shared}, Inv (X.blk sc Hc scope ce fp) [] σ' H' s' → (∀ b ∈ fp, H' b = none) → ∀ b ∈ fp, FpOk (X.blk sc Hc scope ce fp) [] H' b := fun {σ' H' s'} I' hn b hb =>
    ⟨hn b hb, (I'.ok.exf b hb).1, I'.ok.exfs b hb, .inl hb, fun x c e => (I'.ok.exf b hb).2 x c e, fun p hp => absurd (show p ∈ ([] : List (Addr × Obj)) ++ [] from hp) (by simp)⟩
  have loop : codeAny (model X.prog X.w) X.A (.compLoop (.SetComp elt [⟨tg, iter, ifs, 0⟩] scope pos) 0 (.ref it) (.ref D) ce) (compPost (model X.prog X.w) X.A X.xe use Qf (.ref D) sc.heap.objs.size) sd := by
    refine compLoopS_any (fun n s' => ∃ i H', Inv (X.blk sc Hc scope ce fp) [] (wipe σ (own.map (·.2))) H' s' ∧ tn i s'.heap ∧ (∀ b ∈ fp, H' b = none) ∧ W i n H') ?_ m0 ⟨0, Hc, Id, std, nfp, w0⟩
    rintro n s5 ⟨i, H5, I5, st5, n5, w5⟩
    rcases turn i n H5 w5 with ⟨stop, qq⟩ | ⟨go, Nx, toW, step⟩
    · refine thnF (T.done (X.blk sc Hc scope ce fp) rfl rfl rfl hc i [] s5 _ H5 (fun _ _ => False) I5 (stat I5 n5) st5 stop) fun r s6 ⟨hr, I6⟩ => ?_
      subst hr
      have I7 : Inv X pins σ H5 s6 := Ic.call' (ch := fp) I6.os I6.base I6.hok I6.bare fun b hb => ⟨(fpc b hb).1.2.2.2.1, (fpc b hb).1.2.1, (fpc b hb).1.2.2.2.2.1, (fpc b hb).1.2.2.2.2.2⟩
      have nC : H5 sc.heap.objs.size = none := loc ▸ (show H5 ce.locals = none from I6.free)
      obtain ⟨m, hn, _⟩ := I6.loc
      have hn : s6.heap.Ns ce.locals m := hn
      rw [loc] at hn
      exact hRR D sc.heap.objs.size s6 m H5 I7 qq hn (Ic.fpOk (Nat.le_refl _) nC)
    · refine thnF (T.item (X.blk sc Hc scope ce fp) rfl rfl rfl hc i [] s5 _ H5 (fun _ _ => False) I5 (stat I5 n5) st5 go) fun r s6 ⟨u, hr, h6⟩ => ?_
      subst hr
      refine thnF h6 fun _ s7 ⟨x, H7, I7, r7, y7, st7, n7⟩ => ?_
      refine thnF (pg.run _ s7 _ H7 x u _ (I7.pinned (stat I7 n7) (T.obj _ _ st7)) r7 (step x H7 y7)) fun _ s8 ⟨σ8, H8, I8, hw8, q8⟩ => ?_
      refine thnF (pt.run _ s8 σ8 H8 _ I8 q8) fun b s9 ⟨H9, I9, q9⟩ => ?_
      have fin : ∀ {s' : Shared} {H' : Hp}, Inv (X.blk sc Hc scope ce fp) ([] ++ pinsAt fp s7.heap) σ8 H' s' → Nx H' → ∃ m, m < n ∧ ∃ i H', Inv (X.blk sc Hc scope ce fp) [] (wipe σ (own.map (·.2))) H' s' ∧ tn i s'.heap ∧ (∀ b ∈ fp, H' b = none) ∧ W i m H' := fun {s' H'} I' nx => by
        obtain ⟨m', lm, w'⟩ := toW H' nx
        have pin' : ∀ b ∈ fp, ∀ o, s7.heap.get? b = some o → s'.heap.get? b = some o ∧ H' b = none := fun b hb o e =>
          let z := I'.pin (b, o) (List.mem_append_right _ (List.mem_append_right _ (mem_pinsAt hb e)))
          ⟨z.1, z.2.1⟩
        refine ⟨m', lm, i + 1, H', (I'.unpinned (pins := [])).weak (by rw [← hw8, wipe_length]) (fun j v e => ?_), T.keep _ _ _ st7 fun b hb o e => (pin' b hb o e).1, fun b hb => let ⟨o, e, _⟩ := T.obj _ _ st7 b hb; (pin' b hb o e).2, w'⟩
        rw [← hw8] at e
        exact (wipe_some e).1
      cases b with
      | false =>
        simp only [Bool.false_eq_true, if_false] at q9 ⊢
        exact fin I9 q9
      | true =>
        simp only [if_true] at q9 ⊢
        refine thnF (pe.run _ s9 σ8 H9 _ I9 q9) fun v sA ⟨y, HA, IA, rA, qA⟩ => ?_
        exact thnF (S.add (X.blk sc Hc scope ce fp) rfl rfl rfl hu _ sA σ8 HA (.ref D) [y] (.ref D) [v] _ IA rfl (.cons rA .nil) qA) fun _ sB ⟨_, HB, IB, _, nx⟩ => fin IB nx
  exact codeAny_compStart_set loop (T.self X.A 0 _ _ _ std loop)
theorem pe_setC (S : SKind X.prog X.w X.K) {elt tg iter : Expr} {ifs : List Expr} {scope : Scope} {own : List (PySem.Str × Nat)} {pos : Pos} {wi : TI} {g : TG} {tt : TT} {te : TE} (hu : X.A.units + 64 < cLine) (hc : X.calm = true) (hN : X.N.Nodup) (hi : PI X tg iter wi) (ok : BlkOk X.N X.env.scope scope own)
    (hg : ∀ (s : Shared) (H : Hp) (C : Addr) (cl : List (PySem.Str × Addr)) (fp : List Addr), PG (X.blk s H scope (compEnvC scope cl C X.env) fp) tg g) (ht : ∀ (s : Shared) (H : Hp) (C : Addr) (cl : List (PySem.Str × Addr)) (fp : List Addr), PTs (X.blk s H scope (compEnvC scope cl C X.env) fp) ifs tt)
    (he : ∀ (s : Shared) (H : Hp) (C : Addr) (cl : List (PySem.Str × Addr)) (fp : List Addr), PE (X.blk s H scope (compEnvC scope cl C X.env) fp) elt te) (hs : ∀ x, foldedSetIterable iter X.env x = pure x := by intro _; rfl) :
    PE X (.SetComp elt [⟨tg, iter, ifs, 0⟩] scope pos) (tSetC S.r S.z wi g tt te (own.map (·.2))) := by
  refine ⟨fun pins s σ H Q I h => ?_⟩
  rw [eval_SetComp]
  refine setc_core S hu hc hN I hi ok hg ht he hs h fun D C s' m H' I' q hn f => ⟨m, hn, fun h'' sb => ?_⟩
  exact ⟨.ref D, H', I'.turned (t' := s'.toks) (fun b o hb e => (sb.2 b hb).trans e) f.1 f.2.1 f.2.2.2.1 f.2.2.2.2.1 f.2.2.2.2.2, rfl, q⟩
end
/-! ### pairs -/
/-- s.add(t), t a tuple of ints -/
def rAddT (K : PySem.W.Frag) (P : Program) (w : World) : V → List V → Hp → VK → Prop := fun x xs H Q => ∃ (a t : Addr) (k : List Int) (L : List (Addr × List Int)), x = .ref a ∧ xs = [.ref t] ∧ H a = some (SetTO P w a L) ∧ (∀ p ∈ L, SqT K H p.1 (p.2.map V.int)) ∧ SqT K H t (k.map V.int) ∧ L.length + 1 < 64 ∧
  ∀ L', (k ∈ L.map (·.2) → L' = L) → (k ∉ L.map (·.2) → L'.Perm ((t, k) :: L)) → Q .non (upd H a (SetTO P w a L'))
theorem mt_addT {X : Cx} (hu : X.A.units + 64 < cLine) : MtR X "set.add" (rAddT X.K X.prog X.w) := by
  intro pins s σ H x xs v us Q I rx rxs h
  obtain ⟨a, t, k, L, rfl, rfl, ha, hL, hk, few, q⟩ := h
  cases rx
  rw [Vals.ref1 rxs]
  obtain ⟨es, ep, tb, R⟩ := (I.hok a _ ha).1.full fun p hp => I.isT (hL p hp)
  obtain ⟨o, ho, hex, hd⟩ := R.ob
  have ty : s.TypeIs (.ref a) "set" := ⟨o, ho, hex.1⟩
  refine wpAny_call_entry F.slot_set_add ty F.entry_set_add ?_ (F.args_set_add_2 _ _)
  unfold Builtin.«set.add» Builtin.Frozenset.oneOther
  simp only [List.isEmpty_nil, bind_assoc]
  unfold Builtin.Frozenset.addrOf setAdd
  refine wpAny_bind (wpAny_pure ?_)
  try dsimp only
  refine wpAny_bind (wpAny_pure ?_)
  try dsimp only
  refine wpAny_bind (wpAny_holding (wpAny_bind (wpAny_pyHash_tuple (by show _ < cLine; first | omega | (have := hu; simp only [Around.in1, Around.under, Around.units] at *; omega)) (I.isT hk) ?_)))
  refine add_at (s := { s with toks := s.toks + (k.length + 1) }) R (I.isT hk) (by show _ < cLine; first | omega | (have := hu; simp only [Around.in1, Around.under, Around.units] at *; omega)) few fun b h' L' es' ep' t' sb R' c1 c2 => ?_
  show wpAny _ _ (ret Value.none) _ _ _
  have there : ∃ u, h'.get? a = some u := let ⟨o, h1, _⟩ := R'.ob; ⟨o, h1⟩
  exact wpAny_pure ⟨_, rfl, .non, _, I.write (e := a) (t' := s.toks + (k.length + 1)) (by rw [ha]; trivial) (.inl rfl) (fun b u hb hu => (sb.2 b hb).trans hu) there (setTO_new R'.t0), rfl, q L' c1 c2⟩
def pairK (P : Program) (w : World) (K : PySem.W.Frag) : SKind P w K where
  z := fun D => SetTO P w D []
  r := rAddT K P w
  fresh := fun H h => setTO_new (setTR_fresh (P := P) (w := w) (Heap.get?_push_size _ rfl)).t0
  add := fun Y e1 e2 e3 hu => by subst e1 e2 e3; exact mt_addT hu
end K18

/-! k18: {e for .. in .. for .. in ..}; sets of ints. -/
namespace K18
open PySem PySem.Spec PyProof.Rows L2 LamX K1 PpSet

section
variable {prog : Program} {w : World} {A : Around} {R : Result → Shared → Prop} {s : Shared} {elt t0 i0 t1 i1 : Expr} {f0 f1 : List Expr} {scope : Scope} {pos : Pos} {it acc : Value} {env : Env}
abbrev twoC (elt t0 i0 t1 i1 : Expr) (f0 f1 : List Expr) (scope : Scope) (pos : Pos) : Expr := .SetComp elt [⟨t0, i0, f0, 0⟩, ⟨t1, i1, f1, 0⟩] scope pos
theorem turn_out : compTurn (twoC elt t0 i0 t1 i1 f0 f1 scope pos) 0 it acc env = (do
      standAt i0.pos
      match ← pyNext it with
      | none => pure (.done .next)
      | some v =>
        letOwnedTupleGo t0 it v
        assign t0 env v
        let mut ok := true
        for c in f0 do
          if ok then ok ← isTrue c env (eval c env)
        if ok then
          let x ← eval i1 env
          standAt i1.pos
          let x ← foldedSetIterable i1 env x
          let _ ← runOwn (.compStart (twoC elt t0 i0 t1 i1 f0 f1 scope pos) 1 (← holding [x] (pyIter x)) acc env) env
        again (.compLoop (twoC elt t0 i0 t1 i1 f0 f1 scope pos) 0 it acc env)) := by rfl
theorem turn_in : compTurn (twoC elt t0 i0 t1 i1 f0 f1 scope pos) 1 it acc env = (do
      standAt i1.pos
      match ← pyNext it with
      | none => pure (.done .next)
      | some v =>
        letOwnedTupleGo t1 it v
        assign t1 env v
        let mut ok := true
        for c in f1 do
          if ok then ok ← isTrue c env (eval c env)
        if ok then
          (do let v ← eval elt env; standAt elt.pos; let _ ← call (.builtin "set.add") [acc, v])
        again (.compLoop (twoC elt t0 i0 t1 i1 f0 f1 scope pos) 1 it acc env)) := by rfl
theorem loop_out (hs : ∀ x, foldedSetIterable i1 env x = pure x) (I : Nat → Shared → Prop)
    (turn : ∀ n s, I n s → wpAny (model prog w) A (pyNext it) (fun r sa => match r with
      | none => R (.ok .next) sa
      | some v => wpAny (model prog w) A (letOwnedTupleGo t0 it v) (fun _ sb => wpAny (model prog w) A (assign t0 env v) (fun _ sc =>
          wpAny (model prog w) A (forIn f0 true fun c r => if r = true then do let ok ← isTrue c env (eval c env); pure (ForInStep.yield ok) else pure (ForInStep.yield r)) (fun ok sd =>
            if ok = true then wpAny (model prog w) A (eval i1 env) (fun x se => wpAny (model prog w) A (pyIter x) (fun it1 sf =>
              codeAny (model prog w) A (.compStart (twoC elt t0 i0 t1 i1 f0 f1 scope pos) 1 it1 acc env) (fun r s' => match r with
                | .ok _ => ∃ m, m < n ∧ I m s'
                | .error _ => False) sf) (notedBy (model prog w) A env fun e s' => R (.error e) s') se) (notedBy (model prog w) A env fun e s' => R (.error e) s') sd
            else ∃ m, m < n ∧ I m sd) (notedBy (model prog w) A env fun e s' => R (.error e) s') sc) (notedBy (model prog w) A env fun e s' => R (.error e) s') sb) (notedBy (model prog w) A env fun e s' => R (.error e) s') sa) (notedBy (model prog w) A env fun e s' => R (.error e) s') s)
    (n : Nat) (h : I n s) : codeAny (model prog w) A (.compLoop (twoC elt t0 i0 t1 i1 f0 f1 scope pos) 0 it acc env) R s := by
  refine codeAny_loop rfl I (fun n s hI => ?_) n h
  show wpAny _ A ((compTurn (twoC elt t0 i0 t1 i1 f0 f1 scope pos) 0 it acc env).onRaise (fun x => do noteFrame x env; theTreesLotGoes x)) _ _ s
  refine wpAny_noted ?_
  rw [turn_out]
  refine wpAny_bind (wpAny_standAt (wpAny_bind (wpAny_mono (turn n s hI) (fun r sa ha => ?_) fun _ _ z => z)))
  rcases r with _ | v
  · exact wpAny_pure ha
  · refine wpAny_bind (wpAny_mono ha (fun _ sb hb => wpAny_bind (wpAny_mono hb (fun _ sc hc => wpAny_bind (wpAny_mono hc (fun ok sd hd => ?_) fun _ _ z => z)) fun _ _ z => z)) fun _ _ z => z)
    cases ok with
    | false => exact wpAny_pure ⟨rfl, hd⟩
    | true =>
      refine wpAny_bind (wpAny_mono hd (fun x se he => ?_) fun _ _ z => z)
      refine wpAny_bind (wpAny_standAt (wpAny_bind (wpAny_of_eq (hs x) (wpAny_bind (wpAny_holding (wpAny_mono he (fun it1 sf hf => ?_) fun _ _ z => z))))))
      refine wpAny_bind (wpAny_runOwn ?_)
      rw [Around.mark_none]
      refine codeAny_mono hf fun r s' hr => ?_
      rcases r with e | f
      · exact hr.elim
      · first
          | exact wpAny_pure ⟨rfl, hr⟩
          | exact wpAny_bind (wpAny_pure (wpAny_pure ⟨rfl, hr⟩))
theorem loop_in (I : Nat → Shared → Prop)
    (turn : ∀ n s, I n s → wpAny (model prog w) A (pyNext it) (fun r sa => match r with
      | none => R (.ok .next) sa
      | some v => wpAny (model prog w) A (letOwnedTupleGo t1 it v) (fun _ sb => wpAny (model prog w) A (assign t1 env v) (fun _ sc =>
          wpAny (model prog w) A (forIn f1 true fun c r => if r = true then do let ok ← isTrue c env (eval c env); pure (ForInStep.yield ok) else pure (ForInStep.yield r)) (fun ok sd =>
            if ok = true then wpAny (model prog w) A (eval elt env) (fun x se =>
              wpAny (model prog w) A (call (.builtin "set.add") [acc, x]) (fun _ sf => ∃ m, m < n ∧ I m sf) (notedBy (model prog w) A env fun e s' => R (.error e) s') se) (notedBy (model prog w) A env fun e s' => R (.error e) s') sd
            else ∃ m, m < n ∧ I m sd) (notedBy (model prog w) A env fun e s' => R (.error e) s') sc) (notedBy (model prog w) A env fun e s' => R (.error e) s') sb) (notedBy (model prog w) A env fun e s' => R (.error e) s') sa) (notedBy (model prog w) A env fun e s' => R (.error e) s') s)
    (n : Nat) (h : I n s) : codeAny (model prog w) A (.compLoop (twoC elt t0 i0 t1 i1 f0 f1 scope pos) 1 it acc env) R s := by
  refine codeAny_loop rfl I (fun n s hI => ?_) n h
  show wpAny _ A ((compTurn (twoC elt t0 i0 t1 i1 f0 f1 scope pos) 1 it acc env).onRaise (fun x => do noteFrame x env; theTreesLotGoes x)) _ _ s
  refine wpAny_noted ?_
  rw [turn_in]
  refine wpAny_bind (wpAny_standAt (wpAny_bind (wpAny_mono (turn n s hI) (fun r sa ha => ?_) fun _ _ z => z)))
  rcases r with _ | v
  · exact wpAny_pure ha
  · refine wpAny_bind (wpAny_mono ha (fun _ sb hb => wpAny_bind (wpAny_mono hb (fun _ sc hc => wpAny_bind (wpAny_mono hc (fun ok sd hd => ?_) fun _ _ z => z)) fun _ _ z => z)) fun _ _ z => z)
    cases ok with
    | false => exact wpAny_pure ⟨rfl, hd⟩
    | true => exact wpAny_bind (wpAny_bind (wpAny_mono hd (fun x se he => wpAny_bind (wpAny_standAt (wpAny_bind (wpAny_mono he (fun _ sf hf => wpAny_pure (wpAny_pure ⟨rfl, hf⟩)) fun _ _ z => z)))) fun _ _ z => z))
theorem start_in (h0 : codeAny (model prog w) A (.compLoop (twoC elt t0 i0 t1 i1 f0 f1 scope pos) 1 it acc env) R s)
    (h : wpAny (model prog w) A (pyIter it) (fun itx s' => codeAny (model prog w) A (.compLoop (twoC elt t0 i0 t1 i1 f0 f1 scope pos) 1 itx acc env) R s') (notedBy (model prog w) A env fun x s' => R (.error x) s') s) :
    codeAny (model prog w) A (.compStart (twoC elt t0 i0 t1 i1 f0 f1 scope pos) 1 it acc env) R s := by
  refine codeAny_of_tree ?_
  show wpAny _ _ ((compStart (twoC elt t0 i0 t1 i1 f0 f1 scope pos) 1 it acc env).onRaise (fun x => do noteFrame x env; standAt theWindowsPlace)) _ _ s
  refine wpAny_notedAt ?_
  unfold compStart
  show wpAny _ _ (ask >>= _) _ _ s
  refine wpAny_bind (wpAny_askSetting (wpAny_ite ?_))
  split
  · first
      | exact wpAny_bind (wpAny_pure (wpAny_pure ⟨rfl, h0⟩))
      | exact wpAny_pure ⟨rfl, h0⟩
  · first
      | exact wpAny_bind (wpAny_rule (wpAny_bind (wpAny_standAt (wpAny_bind (wpAny_mono h (fun itx s' hx => wpAny_pure ⟨rfl, hx⟩) fun _ _ z => z)))))
      | (refine wpAny_bind (wpAny_rule ?_); show wpAny _ _ (standAt i1.pos >>= _) _ _ s; exact wpAny_bind (wpAny_standAt (wpAny_bind (wpAny_mono h (fun itx s' hx => wpAny_pure ⟨rfl, hx⟩) fun _ _ z => z))))
end
section
variable {X : Cx}
def tSetC2 (r : V → List V → Hp → VK → Prop) (z : Addr → HO) (wi : TI) (g : TG) (tt : TT) (wi1 : TI) (g1 : TG) (tt1 : TT) (te : TE) (vs vs1 : List Nat) : TE := fun σ H Q => wi σ H fun J H1 => ∀ D, H1 D = none → ∃ W : Nat → Nat → Hp → Prop, (∃ m, W 0 m (upd H1 D (z D))) ∧ ∀ i m H, W i m H →
  (J.stop i H ∧ Q (.ref D) H) ∨ (J.go i H ∧ ∃ Nx : Hp → Prop, (∀ H', Nx H' → ∃ m', m' < m ∧ W (i + 1) m' H') ∧ ∀ x H', J.yld i H x H' → g x (wipe σ vs) H' fun σ2 H2 => wipe σ2 vs = wipe σ vs ∧ tt σ2 H2 fun b H3 =>
    if b = true then wi1 σ2 H3 fun J1 H4 => ∃ W1 : Nat → Nat → Hp → Prop, (∃ m, W1 0 m H4) ∧ ∀ j k H, W1 j k H →
      (J1.stop j H ∧ Nx H) ∨ (J1.go j H ∧ ∃ Nx1 : Hp → Prop, (∀ H', Nx1 H' → ∃ k', k' < k ∧ W1 (j + 1) k' H') ∧ ∀ x H', J1.yld j H x H' → g1 x (wipe σ2 vs1) H' fun σ3 H5 => wipe σ3 vs1 = wipe σ2 vs1 ∧ tt1 σ3 H5 fun b H6 =>
        if b = true then te σ3 H6 fun y H7 => r (.ref D) [y] H7 fun _ H8 => Nx1 H8 else Nx1 H6)
    else Nx H3)
theorem setc2_core (S : SKind X.prog X.w X.K) {pins : List (Addr × Obj)} {s : Shared} {σ : L2.St} {H : Hp} {Q : VK} {elt tg iter tg1 iter1 : Expr} {ifs ifs1 : List Expr} {scope : Scope} {own : List (PySem.Str × Nat)} {vs1 : List Nat} {pos pos' : Pos} {wi wi1 : TI} {g g1 : TG} {tt tt1 : TT} {te : TE} {use : Option (Value → Sem Unit)} {Qf : Value → Shared → Prop}
    (hu : X.A.units + 64 < cLine) (hc : X.calm = true) (hN : X.N.Nodup) (I : Inv X pins σ H s) (hi : PI X tg iter wi) (ok : BlkOk X.N X.env.scope scope own) (hv : ∀ i ∈ vs1, i ∈ own.map (·.2))
    (hg : ∀ (s : Shared) (H : Hp) (C : Addr) (cl : List (PySem.Str × Addr)) (fp : List Addr), PG (X.blk s H scope (compEnvC scope cl C X.env) fp) tg g) (ht : ∀ (s : Shared) (H : Hp) (C : Addr) (cl : List (PySem.Str × Addr)) (fp : List Addr), PTs (X.blk s H scope (compEnvC scope cl C X.env) fp) ifs tt)
    (he : ∀ (s : Shared) (H : Hp) (C : Addr) (cl : List (PySem.Str × Addr)) (fp : List Addr), PE (X.blk s H scope (compEnvC scope cl C X.env) fp) elt te) (hs : ∀ x, foldedSetIterable iter X.env x = pure x)
    (hi1 : ∀ (s : Shared) (H : Hp) (C : Addr) (cl : List (PySem.Str × Addr)) (fp : List Addr), PI (X.blk s H scope (compEnvC scope cl C X.env) fp) tg1 iter1 wi1)
    (hg1 : ∀ (s : Shared) (H : Hp) (C : Addr) (cl : List (PySem.Str × Addr)) (fp : List Addr), PG (X.blk s H scope (compEnvC scope cl C X.env) fp) tg1 g1)
    (ht1 : ∀ (s : Shared) (H : Hp) (C : Addr) (cl : List (PySem.Str × Addr)) (fp : List Addr), PTs (X.blk s H scope (compEnvC scope cl C X.env) fp) ifs1 tt1)
    (hs1 : ∀ env x, foldedSetIterable iter1 env x = pure x) (h : tSetC2 S.r S.z wi g tt wi1 g1 tt1 te (own.map (·.2)) vs1 σ H Q)
    (hRR : ∀ D C s' m H', Inv X pins σ H' s' → Q (.ref D) H' → s'.heap.Ns C m → FpOk X pins H' C → compPost (model X.prog X.w) X.A X.xe use Qf (.ref D) C (.ok .next) s') :
    wpAny (model X.prog X.w) X.A (comprehension (twoC elt tg iter tg1 iter1 ifs ifs1 scope pos) scope X.env pos' (newSet (.type "set")) false (eval iter X.env) use) Qf X.xe s := by
  have cellsThere : ∀ y ∈ scope.names, y.2 = .free → ∃ c, X.env.cells.lookup y.1 = some c := fun y hy e => (ok.free y hy e).elim (fun k => I.ok.has _ (.inl k)) fun k => I.ok.has _ (.inr k)
  refine wpAny_comprehension_free (use := use) rfl hs (closure_ok cellsThere) ok.kind (fun y hy e => by rw [ok.uniq y hy, e])
    (thn (hi.run pins s σ H _ I h) fun xv sa hx => thn hx fun itv sb hb => ?_)
  obtain ⟨it, fp, tn, J, Hb, e, Ib, T, stb, fpb, q⟩ := hb
  subst e
  refine newSet_ok (newEnv_comp ?_)
  generalize eD : sb.heap.objs.size = D
  have Dn : Hb D = none := Ib.hok.fresh (Nat.le_of_eq eD)
  obtain ⟨W, ⟨m0, w0⟩, turn⟩ := q D Dn
  generalize esc : ({ sb with heap := sb.heap.push (newSetObj X.w) } : Shared) = sc
  have Ic : Inv X pins σ (upd Hb D (S.z D)) sc := by
    rw [← esc]
    refine Ib.laid (t' := sb.toks) (fun b o e => Heap.get?_push_of_some _ e) (Nat.le_of_eq eD) ?_
    rw [← eD]
    exact S.fresh _ _
  have hsc : sc.heap = sb.heap.push (newSetObj X.w) := by rw [← esc]
  have below : ∀ b ∈ fp, b < sb.heap.objs.size := fun b hb => let ⟨o, e, _⟩ := T.obj _ _ stb b hb; Heap.lt_size e
  have fpc : ∀ b ∈ fp, FpOk X pins (upd Hb D (S.z D)) b ∧ b < sc.heap.objs.size := fun b hb => by
    have l := below b hb
    refine ⟨⟨?_, (fpb b hb).2⟩, by rw [hsc, Heap.size_push]; exact Nat.lt_succ_of_lt l⟩
    rw [upd_ne (by rw [← eD]; exact Nat.ne_of_lt l)]
    exact (fpb b hb).1
  have stc : tn 0 sc.heap := T.keep _ _ _ stb fun b _ o e => by rw [hsc]; exact Heap.get?_push_of_some _ e
  have Id := block_start Ic ok hN fpc
  have pg := hg sc (upd Hb D (S.z D)) sc.heap.objs.size (cellsFrom (sc.heap.objs.size + 1) scope.names (cloFrom X.env.cells scope.names [])) fp
  have pt := ht sc (upd Hb D (S.z D)) sc.heap.objs.size (cellsFrom (sc.heap.objs.size + 1) scope.names (cloFrom X.env.cells scope.names [])) fp
  have pe := he sc (upd Hb D (S.z D)) sc.heap.objs.size (cellsFrom (sc.heap.objs.size + 1) scope.names (cloFrom X.env.cells scope.names [])) fp
  have qi := hi1 sc (upd Hb D (S.z D)) sc.heap.objs.size (cellsFrom (sc.heap.objs.size + 1) scope.names (cloFrom X.env.cells scope.names [])) fp
  have qg := hg1 sc (upd Hb D (S.z D)) sc.heap.objs.size (cellsFrom (sc.heap.objs.size + 1) scope.names (cloFrom X.env.cells scope.names [])) fp
  have qt := ht1 sc (upd Hb D (S.z D)) sc.heap.objs.size (cellsFrom (sc.heap.objs.size + 1) scope.names (cloFrom X.env.cells scope.names [])) fp
  show codeAny _ _ (.compStart (twoC elt tg iter tg1 iter1 ifs ifs1 scope pos) 0 (.ref it) (.ref D) (compEnvC scope (cellsFrom (sc.heap.objs.size + 1) scope.names (cloFrom X.env.cells scope.names [])) sc.heap.objs.size X.env)) (compPost (model X.prog X.w) X.A X.xe use Qf (.ref D) sc.heap.objs.size) { sc with heap := pushCells (sc.heap.push { cls := .type "dict", data := .dict #[] }) scope.names }
  have nfp : ∀ b ∈ fp, (upd Hb D (S.z D)) b = none := fun b hb => (fpc b hb).1.1
  generalize hce : compEnvC scope (cellsFrom (sc.heap.objs.size + 1) scope.names (cloFrom X.env.cells scope.names [])) sc.heap.objs.size X.env = ce at Id pg pt pe qi qg qt ⊢
  have loc : ce.locals = sc.heap.objs.size := by subst hce; rfl
  generalize eHc : upd Hb D (S.z D) = Hc at Ic Id pg pt pe qi qg qt w0 nfp fpc
  generalize esd : ({ sc with heap := pushCells (sc.heap.push { cls := .type "dict", data := .dict #[] }) scope.names } : Shared) = sd at Id ⊢
  have std : tn 0 sd.heap := T.keep _ _ _ stc fun b _ o e => by rw [← esd]; exact pushCells_keeps _ _ _ _ (Heap.get?_push_of_some _ e)
  have stat : ∀ {σ' : L2.St} {H' : Hp} {s' : Shared}, Inv (X.blk sc Hc scope ce fp) [] σ' H' s' → (∀ b ∈ fp, H' b = none) → ∀ b ∈ fp, FpOk (X.blk sc Hc scope ce fp) [] H' b := fun {σ' H' s'} I' hn b hb =>
    ⟨hn b hb, (I'.ok.exf b hb).1, I'.ok.exfs b hb, .inl hb, fun x c e => (I'.ok.exf b hb).2 x c e, fun p hp => absurd (show p ∈ ([] : List (Addr × Obj)) ++ [] from hp) (by simp)⟩
  have loop : codeAny (model X.prog X.w) X.A (.compLoop (twoC elt tg iter tg1 iter1 ifs ifs1 scope pos) 0 (.ref it) (.ref D) ce) (compPost (model X.prog X.w) X.A X.xe use Qf (.ref D) sc.heap.objs.size) sd := by
    refine loop_out (hs1 ce) (fun n s' => ∃ i H', Inv (X.blk sc Hc scope ce fp) [] (wipe σ (own.map (·.2))) H' s' ∧ tn i s'.heap ∧ (∀ b ∈ fp, H' b = none) ∧ W i n H') ?_ m0 ⟨0, Hc, Id, std, nfp, w0⟩
    rintro n s5 ⟨i, H5, I5, st5, n5, w5⟩
    rcases turn i n H5 w5 with ⟨stop, qq⟩ | ⟨go, Nx, toW, step⟩
    · refine thnF (T.done (X.blk sc Hc scope ce fp) rfl rfl rfl hc i [] s5 _ H5 (fun _ _ => False) I5 (stat I5 n5) st5 stop) fun r s6 ⟨hr, I6⟩ => ?_
      subst hr
      have I7 : Inv X pins σ H5 s6 := Ic.call' (ch := fp) I6.os I6.base I6.hok I6.bare fun b hb => ⟨(fpc b hb).1.2.2.2.1, (fpc b hb).1.2.1, (fpc b hb).1.2.2.2.2.1, (fpc b hb).1.2.2.2.2.2⟩
      have nC : H5 sc.heap.objs.size = none := loc ▸ (show H5 ce.locals = none from I6.free)
      obtain ⟨m, hn, _⟩ := I6.loc
      have hn : s6.heap.Ns ce.locals m := hn
      rw [loc] at hn
      exact hRR D sc.heap.objs.size s6 m H5 I7 qq hn (Ic.fpOk (Nat.le_refl _) nC)
    · refine thnF (T.item (X.blk sc Hc scope ce fp) rfl rfl rfl hc i [] s5 _ H5 (fun _ _ => False) I5 (stat I5 n5) st5 go) fun r s6 ⟨u, hr, h6⟩ => ?_
      subst hr
      refine thnF h6 fun _ s7 ⟨x, H7, I7, r7, y7, st7, n7⟩ => ?_
      refine thnF (pg.run _ s7 _ H7 x u _ (I7.pinned (stat I7 n7) (T.obj _ _ st7)) r7 (step x H7 y7)) fun _ s8 ⟨σ8, H8, I8, hw8, q8⟩ => ?_
      refine thnF (pt.run _ s8 σ8 H8 _ I8 q8) fun b s9 ⟨H9, I9, q9⟩ => ?_
      have fin : ∀ {σ9 : L2.St} {s' : Shared} {H' : Hp}, Inv (X.blk sc Hc scope ce fp) ([] ++ pinsAt fp s7.heap) σ9 H' s' → (wipe σ (own.map (·.2))).length = σ9.length → (∀ (j : Nat) v, (wipe σ (own.map (·.2)))[j]? = some (some v) → σ9[j]? = some (some v)) → Nx H' →
          ∃ m, m < n ∧ ∃ i H', Inv (X.blk sc Hc scope ce fp) [] (wipe σ (own.map (·.2))) H' s' ∧ tn i s'.heap ∧ (∀ b ∈ fp, H' b = none) ∧ W i m H' := fun {σ9 s' H'} I' hl hk nx => by
        obtain ⟨m', lm, w'⟩ := toW H' nx
        have pin' : ∀ b ∈ fp, ∀ o, s7.heap.get? b = some o → s'.heap.get? b = some o ∧ H' b = none := fun b hb o e =>
          let z := I'.pin (b, o) (List.mem_append_right _ (List.mem_append_right _ (mem_pinsAt hb e)))
          ⟨z.1, z.2.1⟩
        exact ⟨m', lm, i + 1, H', (I'.unpinned (pins := [])).weak hl hk, T.keep _ _ _ st7 fun b hb o e => (pin' b hb o e).1, fun b hb => let ⟨o, e, _⟩ := T.obj _ _ st7 b hb; (pin' b hb o e).2, w'⟩
      have l8 : (wipe σ (own.map (·.2))).length = σ8.length := by rw [← hw8, wipe_length]
      have k8 : ∀ (j : Nat) v, (wipe σ (own.map (·.2)))[j]? = some (some v) → σ8[j]? = some (some v) := fun j v e => by
        rw [← hw8] at e
        exact (wipe_some e).1
      have k9 : ∀ (j : Nat) v, (wipe σ (own.map (·.2)))[j]? = some (some v) → (wipe σ8 vs1)[j]? = some (some v) := fun j v e => by
        rw [← hw8] at e
        obtain ⟨e1, e2⟩ := wipe_some e
        rw [wipe_out fun z => e2 (hv j z)]
        exact e1
      cases b with
      | false =>
        simp only [Bool.false_eq_true, if_false] at q9 ⊢
        exact fin I9 l8 k8 q9
      | true =>
        simp only [if_true] at q9 ⊢
        refine thnF (qi.run _ s9 σ8 H9 _ I9 q9) fun xv sA hx => thnF hx fun itv sB hB => ?_
        obtain ⟨it1, fp1, tn1, J1, HB, e1, IB, T1, stB, fB, W1, ⟨m1, w1⟩, turn1⟩ := hB
        subst e1
        have stat1 : ∀ {H' : Hp}, (∀ b ∈ fp1, H' b = none) → ∀ b ∈ fp1, FpOk (X.blk sc Hc scope ce fp) ([] ++ pinsAt fp s7.heap) H' b := fun hn b hb => ⟨hn b hb, (fB b hb).2⟩
        have inner : codeAny (model X.prog X.w) X.A (.compLoop (twoC elt tg iter tg1 iter1 ifs ifs1 scope pos) 1 (.ref it1) (.ref D) ce)
            (fun r s' => match r with
              | .ok _ => ∃ m, m < n ∧ ∃ i H', Inv (X.blk sc Hc scope ce fp) [] (wipe σ (own.map (·.2))) H' s' ∧ tn i s'.heap ∧ (∀ b ∈ fp, H' b = none) ∧ W i m H'
              | .error _ => False) sB := by
          refine loop_in (fun k s' => ∃ j H', Inv (X.blk sc Hc scope ce fp) ([] ++ pinsAt fp s7.heap) (wipe σ8 vs1) H' s' ∧ tn1 j s'.heap ∧ (∀ b ∈ fp1, H' b = none) ∧ W1 j k H') ?_ m1 ⟨0, HB, IB.weak (wipe_length _ _) (fun j v e => (wipe_some e).1), stB, fun b hb => (fB b hb).1, w1⟩
          rintro k sC ⟨j, HC, IC, stC, nC, wC⟩
          rcases turn1 j k HC wC with ⟨stop1, nx1⟩ | ⟨go1, Nx1, toW1, step1⟩
          · refine thnF (T1.done (X.blk sc Hc scope ce fp) rfl rfl rfl hc j _ sC (wipe σ8 vs1) HC (fun _ _ => False) IC (stat1 nC) stC stop1) fun r sE ⟨hr, IE⟩ => ?_
            subst hr
            exact fin IE (l8.trans (wipe_length σ8 vs1).symm) k9 nx1
          · refine thnF (T1.item (X.blk sc Hc scope ce fp) rfl rfl rfl hc j _ sC (wipe σ8 vs1) HC (fun _ _ => False) IC (stat1 nC) stC go1) fun r sE ⟨u1, hr, hE⟩ => ?_
            subst hr
            refine thnF hE fun _ sF ⟨x1, HF, IF, rF, yF, stF, nF⟩ => ?_
            refine thnF (qg.run _ sF (wipe σ8 vs1) HF x1 u1 _ (IF.pinned (stat1 nF) (T1.obj _ _ stF)) rF (step1 x1 HF yF)) fun _ sG ⟨σG, HG, IG, hwG, qG⟩ => ?_
            refine thnF (qt.run _ sG σG HG _ IG qG) fun b1 sI ⟨HI, II, qI⟩ => ?_
            have fin1 : ∀ {s' : Shared} {H' : Hp}, Inv (X.blk sc Hc scope ce fp) (([] ++ pinsAt fp s7.heap) ++ pinsAt fp1 sF.heap) σG H' s' → Nx1 H' → ∃ m, m < k ∧ ∃ j H', Inv (X.blk sc Hc scope ce fp) ([] ++ pinsAt fp s7.heap) (wipe σ8 vs1) H' s' ∧ tn1 j s'.heap ∧ (∀ b ∈ fp1, H' b = none) ∧ W1 j m H' := fun {s' H'} I' nx => by
              obtain ⟨m', lm, w'⟩ := toW1 H' nx
              have pin' : ∀ b ∈ fp1, ∀ o, sF.heap.get? b = some o → s'.heap.get? b = some o ∧ H' b = none := fun b hb o e =>
                let z := I'.pin (b, o) (List.mem_append_right _ (List.mem_append_right _ (mem_pinsAt hb e)))
                ⟨z.1, z.2.1⟩
              exact ⟨m', lm, j + 1, H', I'.unpinned.weak (by rw [← hwG, wipe_length]) (fun j v e => by rw [← hwG] at e; exact (wipe_some e).1), T1.keep _ _ _ stF fun b hb o e => (pin' b hb o e).1, fun b hb => let ⟨o, e, _⟩ := T1.obj _ _ stF b hb; (pin' b hb o e).2, w'⟩
            cases b1 with
            | false =>
              simp only [Bool.false_eq_true, if_false] at qI ⊢
              exact fin1 II qI
            | true =>
              simp only [if_true] at qI ⊢
              refine thnF (pe.run _ sI σG HI _ II qI) fun v sJ ⟨y, HJ, IJ, rJ, qJ⟩ => ?_
              exact thnF (S.add (X.blk sc Hc scope ce fp) rfl rfl rfl hu _ sJ σG HJ (.ref D) [y] (.ref D) [v] _ IJ rfl (.cons rJ .nil) qJ) fun _ sK ⟨_, HK, IK, _, nx⟩ => fin1 IK nx
        exact start_in inner (T1.self X.A 0 _ _ _ stB inner)
  exact codeAny_compStart_set loop (T.self X.A 0 _ _ _ std loop)
theorem pe_setC2 (S : SKind X.prog X.w X.K) {elt tg iter tg1 iter1 : Expr} {ifs ifs1 : List Expr} {scope : Scope} {own : List (PySem.Str × Nat)} {vs1 : List Nat} {pos : Pos} {wi wi1 : TI} {g g1 : TG} {tt tt1 : TT} {te : TE} (hu : X.A.units + 64 < cLine) (hc : X.calm = true) (hN : X.N.Nodup) (hi : PI X tg iter wi) (ok : BlkOk X.N X.env.scope scope own) (hv : ∀ i ∈ vs1, i ∈ own.map (·.2))
    (hg : ∀ (s : Shared) (H : Hp) (C : Addr) (cl : List (PySem.Str × Addr)) (fp : List Addr), PG (X.blk s H scope (compEnvC scope cl C X.env) fp) tg g) (ht : ∀ (s : Shared) (H : Hp) (C : Addr) (cl : List (PySem.Str × Addr)) (fp : List Addr), PTs (X.blk s H scope (compEnvC scope cl C X.env) fp) ifs tt)
    (hi1 : ∀ (s : Shared) (H : Hp) (C : Addr) (cl : List (PySem.Str × Addr)) (fp : List Addr), PI (X.blk s H scope (compEnvC scope cl C X.env) fp) tg1 iter1 wi1)
    (hg1 : ∀ (s : Shared) (H : Hp) (C : Addr) (cl : List (PySem.Str × Addr)) (fp : List Addr), PG (X.blk s H scope (compEnvC scope cl C X.env) fp) tg1 g1) (ht1 : ∀ (s : Shared) (H : Hp) (C : Addr) (cl : List (PySem.Str × Addr)) (fp : List Addr), PTs (X.blk s H scope (compEnvC scope cl C X.env) fp) ifs1 tt1)
    (he : ∀ (s : Shared) (H : Hp) (C : Addr) (cl : List (PySem.Str × Addr)) (fp : List Addr), PE (X.blk s H scope (compEnvC scope cl C X.env) fp) elt te) (hs : ∀ x, foldedSetIterable iter X.env x = pure x := by intro _; rfl) (hs1 : ∀ env x, foldedSetIterable iter1 env x = pure x := by intro _ _; rfl) :
    PE X (twoC elt tg iter tg1 iter1 ifs ifs1 scope pos) (tSetC2 S.r S.z wi g tt wi1 g1 tt1 te (own.map (·.2)) vs1) := by
  refine ⟨fun pins s σ H Q I h => ?_⟩
  rw [eval_SetComp]
  refine setc2_core S hu hc hN I hi ok hv hg ht he hs hi1 hg1 ht1 hs1 h fun D C s' m H' I' q hn f => ⟨m, hn, fun h'' sb => ?_⟩
  exact ⟨.ref D, H', I'.turned (t' := s'.toks) (fun b o hb e => (sb.2 b hb).trans e) f.1 f.2.1 f.2.2.2.1 f.2.2.2.2.1 f.2.2.2.2.2, rfl, q⟩
end
/-- sets of ints -/
def intK (P : Program) (w : World) (K : PySem.W.Frag) : SKind P w K where
  z := fun D => SetO w D (fun _ => false) 0
  r := rSAdd w
  fresh := fun H h => setO_new (setR_fresh w)
  add := fun Y e1 e2 e3 _ => by subst e1 e2 e3; exact mt_sadd
end K18

/-! k18: try .. with several `except X as n`; isinstance of a caught exception that has a dict. -/
namespace K18
open PySem PySem.Spec PyProof.Rows L2 LamX K1

/-- the clauses' wishes, n in slot i: behind a suite the name is gone -/
def wAsMany (K : PySem.W.Frag) (i : Nat) (Wout : WX) (D : Ends) : List (Value × (Addr → Value → Option Addr → TS)) → WX
  | [] => Wout
  | (c, ts) :: r => fun cls d σ H => ∃ b, PySem.W.exmOne K cls c = some b ∧
      (b = true → ∀ a, H a = none → ts a cls d { nx := fun σ' H' => D.nx (σ'.set i none) H', rt := D.rt, bk := fun σ' H' => D.bk (σ'.set i none) H', ct := fun σ' H' => D.ct (σ'.set i none) H' } (σ.set i (some (.ref a))) H) ∧ (b = false → wAsMany K i Wout D r cls d σ H)
inductive AsOk (X : Cx) (n : Str) : List ExceptHandler → List (Value × (Addr → Value → Option Addr → TS)) → Prop
  | nil : AsOk X n [] []
  | cons {x : Str} {c : Value} {ts : Addr → Value → Option Addr → TS} {b1 : Stmt} {more : List Stmt} {np p2 : Pos} {hds : List ExceptHandler} {l : List (Value × (Addr → Value → Option Addr → TS))} (hc : Names X x c)
      (hsu : ∀ (a : Addr) (oe : Obj) (cls : Value) (d : Option Addr) (pn : List (Addr × Obj)), Zc cls d oe → (∃ vs, oe.data = .fields vs) → PSs (X.suite a ((a, oe) :: pn)) (b1 :: more) (ts a cls d)) (r : AsOk X n hds l) :
      AsOk X n (.ExceptHandler (some (.Name x np)) (some n) (b1 :: more) p2 :: hds) ((c, ts) :: l)
theorem ps_try_manyAs {X : Cx} {body : List Stmt} {h1 : ExceptHandler} {hds : List ExceptHandler} {l : List (Value × (Addr → Value → Option Addr → TS))} {pos : Pos} {tb : WX → TS} {Wout : WX} {i : Nat} {n : Str} (st : X.stack = X.env :: X.outer) (hf : X.env.frame = some X.env.locals) (hN : X.N.Nodup) (hi : X.N[i]? = some n) (hln : X.env.kindOf n = some .local) (tk : Takes X Wout)
    (hb : ∀ (W : WX) (pn : List (Addr × Obj)) (xe : Value → Shared → Prop), Takes (X.tr pn xe) W → PassesOwn (model X.prog X.w) X.A X.env xe → PSs (X.tr pn xe) body (tb W))
    (hh : AsOk X n (h1 :: hds) l) : PS X (.Try body (h1 :: hds) [] [] pos) (fun D σ H => tb (wAsMany X.K i Wout D l) D σ H) := by
  refine ⟨fun pins s σ H D I h => ?_⟩
  have ok := I.ok
  have fr : X.A.frames = some (X.env :: X.outer) := by rw [ok.frames, st]
  have hloc : Loc X.env.scope n := .inl hln
  refine wpAny_Try_except ?_
  refine wpAny_mono ((hb (wAsMany X.K i Wout D l) (X.pn ++ pins) (fun e sx => wpAny (model X.prog X.w) X.A (noteFrame e X.env) (fun _ sy => wpAny (model X.prog X.w) X.A (setFlight e none) (fun _ sz =>
    wpAny (model X.prog X.w) X.A (handleBy e X.env (h1 :: hds)) (SP X pins D) X.xe sz) X.xe sy) X.xe sx) (fun u s' xx => ?_) PassesOwn.looking).run [] s σ H D (I.toTry _) h) (fun f sx q => ?_) (fun e sx he => he)
  · obtain ⟨a, B, sI, pn2, τ, G, cls, d, rfl, J', nb, up, sky, na, os, ag, w⟩ := xx
    have J : Inv X pins τ G sI := J'.ofTry ok
    have sky2 : Sky B (X.env :: X.outer) a (Zc cls d) X.env.locals s'.heap := by rw [← st]; exact sky
    show wpAny (model X.prog X.w) X.A (noteFrame (.ref a) X.env) _ _ _
    refine Sky.land Zc.steady fr hf sky2 fun g3 fl3 up3 => ?_
    have J3 : Inv X pins τ G { s' with heap := g3 } := J.landed nb fl3.1 (up.trans up3) os ag
    obtain ⟨oe3, vs3, he3, hz3, hd3⟩ := fl3.there
    have nfr : a ∉ frs (X.env :: X.outer) := fun hm => by
      obtain ⟨_, o', e', hnf⟩ := fl3.2.2.1.mem hm
      rw [he3] at e'; cases e'
      exact hnf _ hd3
    have nL : a ≠ X.env.locals := fun z => nfr (List.mem_filterMap.mpr ⟨X.env, List.mem_cons_self, by rw [hf, z]⟩)
    have nF : a ∉ X.fs := fun hm => by
      obtain ⟨e, he, q⟩ := List.mem_filterMap.mp hm
      exact nfr (List.mem_filterMap.mpr ⟨e, List.mem_cons_of_mem _ he, q⟩)
    have S3 := J3.suite he3 hd3 na nL nF
    have go : ∀ {hs2 : List ExceptHandler} {l2 : List (Value × (Addr → Value → Option Addr → TS))}, AsOk X n hs2 l2 → wAsMany X.K i Wout D l2 cls d τ G →
        wpAny (model X.prog X.w) X.A (handleBy (.ref a) X.env hs2) (SP X pins D) X.xe { s' with heap := g3 } := by
      intro hs2 l2 hk
      induction hk with
      | nil =>
        intro w
        refine wpAny_handleBy_nil ?_
        obtain ⟨_, _, _, oe, vs, T, oT, _, he, _, hd, e1, _⟩ := id fl3
        unfold PySem.passOn
        refine wpAny_bind (wpAny_field he hd e1 ?_)
        rw [if_neg (show ¬ ((Value.ref T == Value.none) = true) from by simp)]
        have out : wpAny (model X.prog X.w) X.A (setFlight (.ref a) X.env.frame) (fun _ sq => wpAny (model X.prog X.w) X.A (throw (.ref a) : Sem Flow) (SP X pins D) X.xe sq) X.xe { s' with heap := g3 } := by
          rw [hf]
          refine HandSPX.setFlight_upZ fl3 fun g4 hg4 up4 => wpAny_throw (tk _ _ ?_)
          exact ⟨a, B, sI, pins, τ, G, cls, d, rfl, J, nb, (up.trans up3).trans up4, .inr (.inr (by rw [st]; exact hg4)), na, os, ag, w⟩
        first
          | exact wpAny_bind (wpAny_pure (wpAny_bind out))
          | exact wpAny_bind out
      | @cons x c ts b1 more np p2 hs3 l3 hc hsu r ih =>
        intro w
        obtain ⟨b, eb, yes, no⟩ := w
        refine wpAny_handleBy_cons (codeAny_handlers_test ?_) (by intro q; cases q)
        have LT : PySem.W.Looks (model X.prog X.w) g3 (typeOf (.ref a)) cls := fun A Q E s k q => wpAny_typeOf_ref (k _ _ he3) (by rw [hz3.1]; exact q)
        have LM := PySem.W.exm_one (M := model X.prog X.w) (J3.kIn) LT eb
        have test : ∀ {Q E : Value → Shared → Prop}, Q c { s' with heap := g3 } → wpAny (model X.prog X.w) (X.A.mark (some (.ref a))) (eval (.Name x np) X.env) Q E { s' with heap := g3 } := fun {Q E} q => by
          obtain ⟨hg, dbg, hm | ⟨hm, hv, hnn⟩⟩ := hc
          · exact ld_glob (X := X.suite a ((a, oe3) :: (X.pn ++ pins))) S3 hg hm q dbg
          · exact ld_blt (X := X.suite a ((a, oe3) :: (X.pn ++ pins))) S3 hg hm hv q hnn dbg
        refine test (LM.here ?_)
        cases b with
        | false => exact ih (no rfl)
        | true =>
          refine codeAny_handlers_suite_as ?_
          refine HandSPX.lands_againZ fl3 fun g4 fl4 up4 => ?_
          have J4 : Inv X pins τ G { s' with heap := g4 } := J.landed nb fl4.1 ((up.trans up3).trans up4) os ag
          obtain ⟨oe4, vs4, he4, hz4, hd4⟩ := fl4.there
          have S4 := J4.suite he4 hd4 na nL nF
          refine store_ok (X := X.suite a ((a, oe4) :: (X.pn ++ pins))) (v := .ref a) S4 hN hi hloc rfl (fun s5 S5 => ?_) (.inr hln)
          refine wpAny_mono ((hsu a oe4 cls d (X.pn ++ pins) hz4 ⟨_, hd4⟩).run [] s5 _ G _ S5 (yes rfl a na)) (fun f s6 q => ?_) (fun _ _ z => False.elim z)
          have fin : ∀ {τ6 : L2.St} {G6 : Hp} {Q : Shared → Prop}, Inv (X.suite a ((a, oe4) :: (X.pn ++ pins))) [] τ6 G6 s6 → (∀ s7, Inv X pins (τ6.set i none) G6 s7 → Q s7) →
              wpAny (model X.prog X.w) X.A (do bindName X.env n .none; unbindBehindTheSuite X.env n p2) (fun _ s7 => Q s7) X.xe s6 := fun {τ6 G6 Q} S6 hq => gone_ok (S6.unsuite ok) hN hi hln hq
          cases f with
          | next =>
            obtain ⟨τ6, G6, S6, q6⟩ := q
            exact fin S6 fun s7 J7 => ⟨_, _, J7, q6⟩
          | brk =>
            obtain ⟨τ6, G6, S6, q6⟩ := q
            exact fin S6 fun s7 J7 => ⟨_, _, J7, q6⟩
          | cont =>
            obtain ⟨τ6, G6, S6, q6⟩ := q
            exact fin S6 fun s7 J7 => ⟨_, _, J7, q6⟩
          | ret u =>
            obtain ⟨v6, τ6, G6, S6, r6, q6⟩ := q
            exact fin S6 fun s7 J7 => ⟨_, _, _, J7, r6, q6⟩
    exact go hh w
  · cases f with
    | next =>
      obtain ⟨τ, G, J', q⟩ := q
      exact wpAny_execs_nil ⟨τ, G, J'.ofTry ok, q⟩
    | brk =>
      obtain ⟨τ, G, J', q⟩ := q
      exact ⟨τ, G, J'.ofTry ok, q⟩
    | cont =>
      obtain ⟨τ, G, J', q⟩ := q
      exact ⟨τ, G, J'.ofTry ok, q⟩
    | ret u =>
      obtain ⟨v, τ, G, J', r, q⟩ := q
      exact ⟨v, τ, G, J'.ofTry ok, r, q⟩
/-- isinstance(e, c), e the caught exception, whose own dict is tracked -/
def rIsD (K : PySem.W.Frag) (a : Addr) (cls : Value) (d : Option Addr) : List V → Hp → VK → Prop := fun xs H Q => ∃ (D dd : Addr) (fs : List (Str × V)) (c : V) (cv : Value) (b : Bool), cls = .ref D ∧ d = some dd ∧ H dd = some (.xd fs) ∧ ExcC K D ∧ xs = [.ref a, c] ∧ (∀ u, RelV c u → u = cv) ∧ PySem.W.kitOne K (.ref D) cv = some b ∧ Q (.bl b) H
theorem call_isD {X : Cx} {a : Addr} {oe : Obj} {cls : Value} {d : Option Addr} {pn : List (Addr × Obj)} (hz : Zc cls d oe) (hf : ∃ vs, oe.data = .fields vs) : CallR (X.suite a ((a, oe) :: pn)) (.builtin "isinstance") (rIsD X.K a cls d) := by
  intro pins s σ H xs us Q I r h
  obtain ⟨D, dd, fs, c, cv, b, rfl, rfl, hD, C, rfl, hcv, e, q⟩ := h
  obtain ⟨vs, hv⟩ := hf
  match us, r with
  | [_, _], .cons rx (.cons rt .nil) =>
    cases rx
    cases hcv _ rt
    obtain ⟨here, _⟩ := I.pin (a, oe) (List.mem_append_left _ List.mem_cons_self)
    have hx : ObjOk X.prog X.w H s.heap dd (.xd fs) := I.hok dd _ hD
    obtain ⟨mA, hns, hr⟩ := hx
    obtain ⟨od, ho, hl⟩ := lookIn_ns hns
    have J : PySem.W.InstAt s.heap a oe D (some od) := ⟨here, hz.1, by unfold PySem.W.notCls; rw [hv] <;> rfl, by rw [hz.2]; exact ho⟩
    have hcl : (PySem.W.clsIn X.K D).isSome = true := by
      obtain ⟨cd, hc, _⟩ := PySem.W.any_some C.hd
      rw [hc] <;> rfl
    exact PySem.W.kia_one (PySem.W.kitx_exc hcl C.hg C.hk C.hs C.ha C.hn C.ht C.hm) I.kIn J e (fun z => nomatch z) fun tk => ⟨.bl b, H, I.kept (t' := tk) fun _ _ z => z, rfl, q⟩
end K18

/-! k18: the errors' makings, raised. -/
namespace K18
open PySem PySem.Spec PyProof.Rows L2 LamX K1

abbrev asg (f : Str) (q1 q2 q3 q4 : Pos) : Stmt := .Assign [.Attribute (.Name "self" q1) f q2] (.Name f q3) q4
/-- __init__ of an error: its fields as passed -/
def spE (C : Addr) (names : List Str) : Sp := fun vs H Q _ => ∃ (a : Addr) (vals : List V), vs = .ref a :: vals ∧ vals.length = names.length ∧ H a = some (exo a C none) ∧
  ∀ dx H', H dx = none → dx ≠ a → H' a = some (exo a C (some dx)) → H' dx = some (exd dx (names.zip vals).reverse) → (∀ b, b ≠ a → b ≠ dx → H' b = H b) → Q .non H'
theorem vis_of {N ps : List Str} {sc : Scope} (S : FnScope N ps sc) {x : Str} (h : x ∈ ps) : Vis sc x := (S.par x h).elim .inl fun z => .inr (.inl z)
abbrev Plain (x : Str) : Prop := (x == ("__debug__" : Str)) = false ∧ (x == ("__classdict__" : Str)) = false
section
variable {P : Program} {w : World} {K : PySem.W.Frag} {mg : Str → Option Value} {base : Heap} {f C : Addr} {fd : FuncData} {qual : Str} {params : Arguments} {body : List Stmt} {scope : Scope}
theorem init1 {f1 : Str} {q1 q2 q3 q4 : Pos} (F : FunD K "__init__" qual params body scope [] [] f fd) (S : FnScope ["self", f1] ["self", f1] scope) (hb : body = [asg f1 q1 q2 q3 q4]) (T : OexC K C)
    (d1 : Plain f1) (n1 : PySem.W.findIn K (.ref C) f1 = some none) : FnOk P w K mg base CX0 1 f fd ["self", f1] (spE C [f1]) := by
  refine F.ok S (fun vs H Q E ⟨a, vals, e, hl, _⟩ => by rw [e]; exact congrArg (· + 1) hl) (fun cdv A outer s H vs Q E hr h => ?_)
  subst hb
  obtain ⟨a, vals, rfl, hl, ha, k⟩ := h
  match vals, hl with
  | [v], _ =>
    refine ⟨_, pss_one (ps_ost (pe_var (i := 0) (x := "self") rfl (vis_of S (by simp))) (pe_var (i := 1) rfl (vis_of S (by simp)) d1.1 d1.2)), ?_⟩
    refine ⟨_, rfl, _, rfl, a, C, rfl, T, n1, .inl ⟨ha, fun dx hd hn => ?_⟩⟩
    exact k dx _ hd hn upd_same ((upd_ne hn).trans upd_same) fun b h1 h2 => (upd_ne h1).trans (upd_ne h2)
theorem init2 {f1 f2 : Str} {q1 q2 q3 q4 r1 r2 r3 r4 : Pos} (F : FunD K "__init__" qual params body scope [] [] f fd) (S : FnScope ["self", f1, f2] ["self", f1, f2] scope) (hb : body = [asg f1 q1 q2 q3 q4, asg f2 r1 r2 r3 r4]) (T : OexC K C)
    (d1 : Plain f1) (d2 : Plain f2) (n1 : PySem.W.findIn K (.ref C) f1 = some none) (n2 : PySem.W.findIn K (.ref C) f2 = some none) : FnOk P w K mg base CX0 1 f fd ["self", f1, f2] (spE C [f1, f2]) := by
  refine F.ok S (fun vs H Q E ⟨a, vals, e, hl, _⟩ => by rw [e]; exact congrArg (· + 1) hl) (fun cdv A outer s H vs Q E hr h => ?_)
  subst hb
  obtain ⟨a, vals, rfl, hl, ha, k⟩ := h
  match vals, hl with
  | [v, u], _ =>
    refine ⟨_, pss_cons (ps_ost (pe_var (i := 0) (x := "self") rfl (vis_of S (by simp))) (pe_var (i := 1) rfl (vis_of S (by simp)) d1.1 d1.2))
      (pss_one (ps_ost (pe_var (i := 0) (x := "self") rfl (vis_of S (by simp))) (pe_var (i := 2) rfl (vis_of S (by simp)) d2.1 d2.2))), ?_⟩
    refine ⟨_, rfl, _, rfl, a, C, rfl, T, n1, .inl ⟨ha, fun dx hd hn => ?_⟩⟩
    have e1 : upd (upd H dx (exd dx [(f1, v)])) a (exo a C (some dx)) dx = some (exd dx [(f1, v)]) := (upd_ne hn).trans upd_same
    refine ⟨_, rfl, _, rfl, a, C, rfl, T, n2, .inr ⟨dx, _, upd_same, e1, by simp, ?_⟩⟩
    exact k dx _ hd hn ((upd_ne (Ne.symm hn)).trans upd_same) upd_same fun b h1 h2 => (upd_ne h2).trans ((upd_ne h1).trans (upd_ne h2))
end
/-- behind a raise: what stood stands, the error's dict holds its fields -/
structure ToldF (H H' : Hp) (d : Addr) (fs : List (Str × V)) : Prop where
  same : Same H H'
  new : H d = none
  at_ : H' d = some (.xd fs)
structure ErrR (P : Program) (w : World) (K : PySem.W.Frag) (mg : Str → Option Value) (base : Heap) (C : Addr) (x : Str) (names : List Str) : Prop where
  g : mg x = some (.ref C)
  o : OexC K C
  i : ∃ fI fd, PySem.W.findIn K (.ref C) "__init__" = some (some (.ref fI)) ∧ PySem.W.typeIn K (.ref fI) = some (.type "function") ∧ Binds K fd ("self" :: names) [] ∧ FnOk P w K mg base CX0 1 fI fd ("self" :: names) (spE C names)
def rsK (C : Addr) (names : List Str) (W : WX) (σ : L2.St) (vs : List V) (H1 : Hp) : Prop := vs.length ≤ 1000 ∧ ∀ a, H1 a = none → spE C names (.ref a :: (vs ++ [])) (upd H1 a (exo a C none))
  (fun v H2 => v = .non ∧ ∃ (d : Addr) (fs : List (Str × V)), H2 a = some (exo a C (some d)) ∧ H2 d = some (exd d fs) ∧ H1 d = none ∧ W (.ref C) (some d) σ (upd (del H2 a) d (.xd fs))) (fun _ _ _ => False)
theorem rs_of {C : Addr} {names : List Str} {W : WX} {σ : L2.St} {vs : List V} {H1 : Hp} (hl : vs.length = names.length) (few : vs.length ≤ 1000) (k : ∀ (d : Addr) (H' : Hp), ToldF H1 H' d (names.zip vs).reverse → W (.ref C) (some d) σ H') : rsK C names W σ vs H1 := by
  refine ⟨few, fun a na => ⟨a, vs ++ [], rfl, by rw [List.append_nil]; exact hl, upd_same, fun dx H' nd ne e1 e2 keep => ⟨rfl, dx, _, e1, e2, ?_, ?_⟩⟩⟩
  · rw [upd_ne ne] at nd
    exact nd
  · rw [upd_ne ne] at nd
    rw [List.append_nil] at e2 ⊢
    refine k dx _ ⟨fun b o e => ?_, nd, upd_same⟩
    have h1 := ne_of_none e na
    have h2 := ne_of_none e nd
    rw [upd_ne h2, del_ne h1, keep b h1 h2, upd_ne h1]
    exact e
def tRs (C : Addr) (names : List Str) (ta : TA) (W : WX) : TS := fun _ σ H => ta σ H (rsK C names W σ)
theorem ps_rs {X : Cx} {C : Addr} {x : Str} {names : List Str} {W : WX} {e : Expr} {es : List Expr} {ta : TA} {p pos pos2 : Pos} (B : ErrR X.prog X.w X.K X.mg X.base C x names) (hc : X.calm = true) (tk : Takes X W) (hr : Room 2 X.A) (ha : PA X (e :: es) ta) (hg : Gl X x := by rfl)
    (hdb : (x == ("__debug__" : Str)) = false := by decide) (he : starEach (e :: es) X.env = (false, eval e X.env) :: starEach es X.env := by rfl) (hpl : (backTo pos (starEach es X.env)).any (·.1) = false := by rfl) :
    PS X (.Raise (some (.Call (.Name x p) (e :: es) [] pos)) none pos2) (tRs C names ta W) := by
  obtain ⟨fI, fd, i1, i2, b1, F1⟩ := B.i
  exact ps_raise (pos := pos2) hc tk (pmk_oex (p := p) (pos := pos) B.o i1 i2 F1 hr b1 .nil pass0 hg B.g ha hdb he hpl)
/-- raise x(name), raise x('text') -/
theorem rs_v {C : Addr} {f : Str} {W : WX} {i : Nat} {v : V} {D : Ends} {σ : L2.St} {H : Hp} (hσ : σ[i]? = some (some v)) (k : ∀ (d : Addr) (H' : Hp), ToldF H H' d [(f, v)] → W (.ref C) (some d) σ H') : tRs C [f] (tCons (tVar i) tNil) W D σ H :=
  ⟨v, hσ, rs_of rfl (by show 1 ≤ 1000; decide) k⟩
theorem rs_c {C : Addr} {f : Str} {W : WX} {v : V} {D : Ends} {σ : L2.St} {H : Hp} (k : ∀ (d : Addr) (H' : Hp), ToldF H H' d [(f, v)] → W (.ref C) (some d) σ H') : tRs C [f] (tCons (tC v) tNil) W D σ H :=
  rs_of (vs := [v]) rfl (by show 1 ≤ 1000; decide) k
end K18

/-! k18: what is walked as a list or as a tuple. -/
namespace K18
open PySem PySem.Spec PyProof.Rows L2 LamX K1

/-- a list or a tuple of xs, tracked -/
def SqA (H : Hp) (a : Addr) (xs : List V) : Prop := H a = some (.lst xs) ∨ H a = some (.tup xs)
theorem SqA.same {H H' : Hp} {a : Addr} {xs : List V} (s : Same H H') (h : SqA H a xs) : SqA H' a xs := h.imp (s _ _) (s _ _)
theorem SqA.there {H : Hp} {a : Addr} {xs : List V} (h : SqA H a xs) : ∃ o, H a = some o := h.elim (fun z => ⟨_, z⟩) fun z => ⟨_, z⟩
theorem SqA.ne {H : Hp} {a b : Addr} {xs : List V} (h : SqA H a xs) (n : H b = none) : a ≠ b := let ⟨_, e⟩ := h.there; ne_of_none e n
theorem SqA.at_ {H H' : Hp} {a : Addr} {xs : List V} (e : H' a = H a) (h : SqA H a xs) : SqA H' a xs := by unfold SqA at *; rw [e]; exact h
def iSeq (K : PySem.W.Frag) (tl : TE) : TI := fun σ H R => tl σ H fun x H1 => ∃ a, x = .ref a ∧ (((∃ xs, SqL K H1 a xs) ∧ R (Itl K a) H1) ∨ ((∃ xs, SqT K H1 a xs) ∧ R (Itt K a) H1))
theorem pi_seq {X : Cx} {tg l : Expr} {tl : TE} (hl : PE X l tl) : PI X tg l (iSeq X.K tl) := by
  refine ⟨fun pins s σ H R I h => thn (hl.run pins s σ H _ I h) fun v sa ⟨x, Ha, Ia, ra, a, e, q⟩ => ?_⟩
  subst e
  cases ra
  have out : ∀ b ∈ [sa.heap.objs.size], FpOk X pins Ha b := fun b hb => by
    cases List.mem_singleton.mp hb
    exact Ia.fpOk (Nat.le_refl _) (Ia.hok.fresh (Nat.le_refl _))
  rcases q with ⟨⟨xs, hq⟩, q⟩ | ⟨⟨xs, hq⟩, q⟩
  · obtain ⟨its, _, p, _⟩ := Ia.list hq
    exact wpAny_pyIter_list p.isList ⟨sa.heap.objs.size, [sa.heap.objs.size], _, _, Ha, rfl, Ia.kept (t' := sa.toks) fun b o e => Heap.get?_push_of_some _ e, turn_list a _, ⟨_, Heap.get?_push_size _ rfl, rfl, rfl⟩, out, q⟩
  · obtain ⟨its, _, p, _⟩ := Ia.tuple hq
    exact wpAny_pyIter_tuple (show sa.heap.IsTuple a its.toArray from p) ⟨sa.heap.objs.size, [sa.heap.objs.size], _, _, Ha, rfl, Ia.kept (t' := sa.toks) fun b o e => Heap.get?_push_of_some _ e, turn_tuple a _, ⟨_, Heap.get?_push_size _ rfl, rfl, rfl⟩, out, q⟩
section
variable {K : PySem.W.Frag} {a : Addr} {xs : List V} {g : TG}
theorem for_seqA {tb : TS} {D : Ends} {σ : L2.St} {H : Hp} (hq : SqA H a xs) (Pv : Nat → L2.St → Hp → Prop) (h0 : Pv 0 σ H) (hl : ∀ i σ' H', i ≤ xs.length → Pv i σ' H' → H' a = H a)
    (hs : ∀ i x σ H, xs[i]? = some x → Pv i σ H → g x σ H fun σ2 H2 => tb { D with nx := Pv (i + 1), ct := Pv (i + 1), bk := D.nx } σ2 H2) (hd : ∀ σ H, Pv xs.length σ H → D.nx σ H) :
    ((∃ xs, SqL K H a xs) ∧ ∃ W : Nat → Nat → L2.St → Hp → Prop, (∃ m, W 0 m σ H) ∧ ∀ i m σ H, W i m σ H →
      ((Itl K a).stop i H ∧ D.nx σ H) ∨ ((Itl K a).go i H ∧ ∃ N : L2.St → Hp → Prop, (∀ σ' H', N σ' H' → ∃ m', m' < m ∧ W (i + 1) m' σ' H') ∧ ∀ x H', (Itl K a).yld i H x H' → g x σ H' fun σ2 H2 => tb { D with nx := N, ct := N, bk := D.nx } σ2 H2)) ∨
    ((∃ xs, SqT K H a xs) ∧ ∃ W : Nat → Nat → L2.St → Hp → Prop, (∃ m, W 0 m σ H) ∧ ∀ i m σ H, W i m σ H →
      ((Itt K a).stop i H ∧ D.nx σ H) ∨ ((Itt K a).go i H ∧ ∃ N : L2.St → Hp → Prop, (∀ σ' H', N σ' H' → ∃ m', m' < m ∧ W (i + 1) m' σ' H') ∧ ∀ x H', (Itt K a).yld i H x H' → g x σ H' fun σ2 H2 => tb { D with nx := N, ct := N, bk := D.nx } σ2 H2)) := by
  rcases hq with h | h
  · exact .inl ⟨⟨_, SqL.of h⟩, for_list Pv h0 (fun i σ' H' l p => SqL.of ((hl i σ' H' l p).trans h)) hs hd⟩
  · exact .inr ⟨⟨_, SqT.of h⟩, for_tup Pv h0 (fun i σ' H' l p => SqT.of ((hl i σ' H' l p).trans h)) hs hd⟩
theorem lc_seqA {tt : TT} {te : TE} {vs : List Nat} {σ : L2.St} {H1 : Hp} {Q : Addr → Hp → Prop} (hq : SqA H1 a xs)
    (k : ∀ D, H1 D = none → ∃ Pv : Nat → Hp → Prop, Pv 0 (upd H1 D (.lst [])) ∧ (∀ i H', i ≤ xs.length → Pv i H' → H' a = H1 a) ∧
      (∀ i x H, xs[i]? = some x → Pv i H → g x (wipe σ vs) H fun σ2 H2 => wipe σ2 vs = wipe σ vs ∧ tt σ2 H2 fun b H3 =>
        if b = true then te σ2 H3 fun y H4 => ∃ acc, H4 D = some (.lst acc) ∧ acc.length < sizeLine ∧ Pv (i + 1) (upd H4 D (.lst (acc ++ [y]))) else Pv (i + 1) H3) ∧ ∀ H, Pv xs.length H → Q D H) :
    ((∃ xs, SqL K H1 a xs) ∧ ∀ D, H1 D = none → ∃ W : Nat → Nat → Hp → Prop, (∃ m, W 0 m (upd H1 D (.lst []))) ∧ ∀ i m H, W i m H →
      ((Itl K a).stop i H ∧ Q D H) ∨ ((Itl K a).go i H ∧ ∃ Nx : Hp → Prop, (∀ H', Nx H' → ∃ m', m' < m ∧ W (i + 1) m' H') ∧ ∀ x H', (Itl K a).yld i H x H' → g x (wipe σ vs) H' fun σ2 H2 => wipe σ2 vs = wipe σ vs ∧ tt σ2 H2 fun b H3 =>
        if b = true then te σ2 H3 fun y H4 => ∃ acc, H4 D = some (.lst acc) ∧ acc.length < sizeLine ∧ Nx (upd H4 D (.lst (acc ++ [y]))) else Nx H3)) ∨
    ((∃ xs, SqT K H1 a xs) ∧ ∀ D, H1 D = none → ∃ W : Nat → Nat → Hp → Prop, (∃ m, W 0 m (upd H1 D (.lst []))) ∧ ∀ i m H, W i m H →
      ((Itt K a).stop i H ∧ Q D H) ∨ ((Itt K a).go i H ∧ ∃ Nx : Hp → Prop, (∀ H', Nx H' → ∃ m', m' < m ∧ W (i + 1) m' H') ∧ ∀ x H', (Itt K a).yld i H x H' → g x (wipe σ vs) H' fun σ2 H2 => wipe σ2 vs = wipe σ vs ∧ tt σ2 H2 fun b H3 =>
        if b = true then te σ2 H3 fun y H4 => ∃ acc, H4 D = some (.lst acc) ∧ acc.length < sizeLine ∧ Nx (upd H4 D (.lst (acc ++ [y]))) else Nx H3)) := by
  rcases hq with h | h
  · refine .inl ⟨⟨_, SqL.of h⟩, fun D hD => ?_⟩
    obtain ⟨Pv, h0, hl, hs, hd⟩ := k D hD
    exact lc_list Pv h0 (fun i H' l p => SqL.of ((hl i H' l p).trans h)) hs hd
  · refine .inr ⟨⟨_, SqT.of h⟩, fun D hD => ?_⟩
    obtain ⟨Pv, h0, hl, hs, hd⟩ := k D hD
    exact lc_tup Pv h0 (fun i H' l p => SqT.of ((hl i H' l p).trans h)) hs hd
/-- the turns of a set's comprehension over a list or a tuple -/
theorem sc_seqA {r : V → List V → Hp → VK → Prop} {z : Addr → HO} {tt : TT} {te : TE} {vs : List Nat} {σ : L2.St} {H1 : Hp} {Q : Addr → Hp → Prop} (hq : SqA H1 a xs)
    (k : ∀ D, H1 D = none → ∃ Pv : Nat → Hp → Prop, Pv 0 (upd H1 D (z D)) ∧ (∀ i H', i ≤ xs.length → Pv i H' → H' a = H1 a) ∧
      (∀ i x H, xs[i]? = some x → Pv i H → g x (wipe σ vs) H fun σ2 H2 => wipe σ2 vs = wipe σ vs ∧ tt σ2 H2 fun b H3 =>
        if b = true then te σ2 H3 fun y H4 => r (.ref D) [y] H4 fun _ H5 => Pv (i + 1) H5 else Pv (i + 1) H3) ∧ ∀ H, Pv xs.length H → Q D H) :
    ((∃ xs, SqL K H1 a xs) ∧ ∀ D, H1 D = none → ∃ W : Nat → Nat → Hp → Prop, (∃ m, W 0 m (upd H1 D (z D))) ∧ ∀ i m H, W i m H →
      ((Itl K a).stop i H ∧ Q D H) ∨ ((Itl K a).go i H ∧ ∃ Nx : Hp → Prop, (∀ H', Nx H' → ∃ m', m' < m ∧ W (i + 1) m' H') ∧ ∀ x H', (Itl K a).yld i H x H' → g x (wipe σ vs) H' fun σ2 H2 => wipe σ2 vs = wipe σ vs ∧ tt σ2 H2 fun b H3 =>
        if b = true then te σ2 H3 fun y H4 => r (.ref D) [y] H4 fun _ H5 => Nx H5 else Nx H3)) ∨
    ((∃ xs, SqT K H1 a xs) ∧ ∀ D, H1 D = none → ∃ W : Nat → Nat → Hp → Prop, (∃ m, W 0 m (upd H1 D (z D))) ∧ ∀ i m H, W i m H →
      ((Itt K a).stop i H ∧ Q D H) ∨ ((Itt K a).go i H ∧ ∃ Nx : Hp → Prop, (∀ H', Nx H' → ∃ m', m' < m ∧ W (i + 1) m' H') ∧ ∀ x H', (Itt K a).yld i H x H' → g x (wipe σ vs) H' fun σ2 H2 => wipe σ2 vs = wipe σ vs ∧ tt σ2 H2 fun b H3 =>
        if b = true then te σ2 H3 fun y H4 => r (.ref D) [y] H4 fun _ H5 => Nx H5 else Nx H3)) := by
  rcases hq with h | h
  · refine .inl ⟨⟨_, SqL.of h⟩, fun D hD => ?_⟩
    obtain ⟨Pv, h0, hl, hs, hd⟩ := k D hD
    refine ⟨fun i m H => m = xs.length - i ∧ i ≤ xs.length ∧ Pv i H, ⟨_, rfl, Nat.zero_le _, h0⟩, ?_⟩
    rintro i m H ⟨rfl, hi, p⟩
    have q : SqL K H a xs := SqL.of ((hl i H hi p).trans h)
    by_cases lt : i < xs.length
    · refine .inr ⟨⟨xs, xs[i], q, by simp [lt]⟩, Pv (i + 1), fun H' p' => ⟨_, by omega, rfl, lt, p'⟩, fun x H' y => ?_⟩
      obtain ⟨rfl, y⟩ := y
      exact hs i x _ (y xs q) p
    · have e : i = xs.length := by omega
      subst e
      exact .inl ⟨⟨xs, q, Nat.le_refl _⟩, hd H p⟩
  · refine .inr ⟨⟨_, SqT.of h⟩, fun D hD => ?_⟩
    obtain ⟨Pv, h0, hl, hs, hd⟩ := k D hD
    refine ⟨fun i m H => m = xs.length - i ∧ i ≤ xs.length ∧ Pv i H, ⟨_, rfl, Nat.zero_le _, h0⟩, ?_⟩
    rintro i m H ⟨rfl, hi, p⟩
    have q : SqT K H a xs := SqT.of ((hl i H hi p).trans h)
    by_cases lt : i < xs.length
    · refine .inr ⟨⟨xs, xs[i], q, by simp [lt]⟩, Pv (i + 1), fun H' p' => ⟨_, by omega, rfl, lt, p'⟩, fun x H' y => ?_⟩
      obtain ⟨rfl, y⟩ := y
      exact hs i x _ (y xs q) p
    · have e : i = xs.length := by omega
      subst e
      exact .inl ⟨⟨xs, q, Nat.le_refl _⟩, hd H p⟩
end
/-! two rules at one place -/
theorem pg_both {X : Cx} {e : Expr} {g1 g2 : TG} (h1 : PG X e g1) (h2 : PG X e g2) : PG X e (fun v σ H Q => g1 v σ H Q ∨ g2 v σ H Q) :=
  ⟨fun pins s σ H v u Q I r h => h.elim (h1.run pins s σ H v u Q I r) (h2.run pins s σ H v u Q I r)⟩
theorem pe_both {X : Cx} {e : Expr} {t1 t2 : TE} (h1 : PE X e t1) (h2 : PE X e t2) : PE X e (fun σ H Q => t1 σ H Q ∨ t2 σ H Q) :=
  ⟨fun pins s σ H Q I h => h.elim (h1.run pins s σ H Q I) (h2.run pins s σ H Q I)⟩
theorem cr_both {X : Cx} {v : Value} {r1 r2 : List V → Hp → VK → Prop} (h1 : CallR X v r1) (h2 : CallR X v r2) : CallR X v (fun xs H Q => r1 xs H Q ∨ r2 xs H Q) :=
  fun pins s σ H xs us Q I r h => h.elim (h1 pins s σ H xs us Q I r) (h2 pins s σ H xs us Q I r)
theorem op_both {X : Cx} {f : Value → Value → Sem Value} {r1 r2 : R2} (h1 : OpR X f r1) (h2 : OpR X f r2) : OpR X f (fun x y H Q => r1 x y H Q ∨ r2 x y H Q) :=
  fun pins s σ H x y v u Q I rx ry h => h.elim (h1 pins s σ H x y v u Q I rx ry) (h2 pins s σ H x y v u Q I rx ry)
/-- a, b = a pair, list or tuple -/
def gPair (K : PySem.W.Frag) (t : TGs) : TG := fun v σ H Q => gTup K 2 t v σ H Q ∨ gLst K 2 t v σ H Q
theorem pg_pair {X : Cx} {es : List Expr} {k : Nat} {t : TGs} {pos : Pos} (hc : X.calm = true) (h : PGs X es t) (hn : (assignEach es X.env).length = 2 := by rfl) (hst : (assignEach es X.env).findIdx? (·.1) = none := by rfl) : PG X (.Tuple es k pos) (gPair X.K t) :=
  pg_both (pg_tup hc h hn hst) (pg_lst hc h hn hst)
theorem gPair.of {K : PySem.W.Frag} {t : TGs} {a : Addr} {xs : List V} {σ : L2.St} {H : Hp} {Q : L2.St → Hp → Prop} (h : SqA H a xs) (l : xs.length = 2) (q : t xs σ H Q) : gPair K t (.ref a) σ H Q :=
  h.elim (fun h => .inr ⟨a, xs, rfl, SqL.of h, l, q⟩) fun h => .inl ⟨a, xs, rfl, SqT.of h, l, q⟩
end K18

/-! k18: is_integer, is_within, is_listed, are_integers, check_none_twice, check_hand. -/
namespace K18
open PySem PySem.Spec PyProof.Rows L2 LamX K1

theorem TyOf.keep {K : PySem.W.Frag} {H H' : Hp} {v : V} {t : Value} (s : Same H H') (h : TyOf K H v t) : TyOf K H' v t := by
  cases h with
  | non => exact .non
  | bl x => exact .bl x
  | int i => exact .int i
  | str x => exact .str x
  | flt x => exact .flt x
  | lst e => exact .lst (s _ _ e)
  | frz e => exact .frz (s _ _ e)
  | tup e => exact .tup (s _ _ e)
  | dK e => exact .dK (s _ _ e)
  | dT e => exact .dT (s _ _ e)
  | ins e a b c d f => exact .ins (s _ _ e) a b c d f
/-- is_integer says no of it -/
def NotInt (K : PySem.W.Frag) (H : Hp) (v : V) : Prop := ∃ (t : Value) (c : Bool), TyOf K H v t ∧ PySem.W.kitOne K t (.type "int") = some c ∧ (c = true → PySem.W.kitOne K t (.type "bool") = some true)
theorem NotInt.same {K : PySem.W.Frag} {H H' : Hp} {v : V} (s : Same H H') (h : NotInt K H v) : NotInt K H' v := let ⟨t, c, a, b⟩ := h; ⟨t, c, TyOf.keep s a, b⟩
theorem NotInt.of {K : PySem.W.Frag} {H : Hp} {v : V} {T : String} (ty : TyOf K H v (.type T)) (m : T ∈ ["NoneType", "str", "list", "tuple", "dict"]) : NotInt K H v := by
  refine ⟨_, false, ty, ?_, fun z => nomatch z⟩
  simp only [List.mem_cons, List.not_mem_nil, or_false] at m
  rcases m with rfl | rfl | rfl | rfl | rfl <;> exact kit_ty (by decide +kernel)
theorem NotInt.bl {K : PySem.W.Frag} {H : Hp} (b : Bool) : NotInt K H (.bl b) := ⟨_, true, .bl b, kit_ty (by decide +kernel), fun _ => kit_ty (by decide +kernel)⟩
theorem int1 {K : PySem.W.Frag} : PySem.W.kitOne K (.type "int") (.type "int") = some true := kit_ty (a := "int") (b := "int") (r := true) (by decide +kernel)
theorem int2 {K : PySem.W.Frag} : (true = true) → PySem.W.kitOne K (.type "int") (.type "bool") = some false := fun _ => kit_ty (a := "int") (b := "bool") (r := false) (by decide +kernel)
/-- no list, no tuple -/
def NotSeq (K : PySem.W.Frag) (H : Hp) (v : V) : Prop := ∃ t, TyOf K H v t ∧ PySem.W.kitAny K t [.type "list", .type "tuple"] = some false
theorem NotSeq.same {K : PySem.W.Frag} {H H' : Hp} {v : V} (s : Same H H') (h : NotSeq K H v) : NotSeq K H' v := let ⟨t, a, b⟩ := h; ⟨t, TyOf.keep s a, b⟩
theorem NotSeq.of {K : PySem.W.Frag} {H : Hp} {v : V} {T : String} (ty : TyOf K H v (.type T)) (m : T ∈ ["NoneType", "str", "int", "bool", "dict"]) : NotSeq K H v := by
  refine ⟨_, ty, ?_⟩
  simp only [List.mem_cons, List.not_mem_nil, or_false] at m
  rcases m with rfl | rfl | rfl | rfl | rfl <;> exact kitAny_cons (kit_ty (b := "list") (r := false) (by decide +kernel)) (fun _ => kitAny_cons (kit_ty (b := "tuple") (r := false) (by decide +kernel)) (fun _ => rfl) fun z => nomatch z) fun z => nomatch z
theorem is_list {K : PySem.W.Frag} : PySem.W.kitAny K (.type "list") [.type "list", .type "tuple"] = some true := kitAny_cons (kit_ty (b := "list") (r := true) (by decide +kernel)) (fun z => nomatch z) fun _ => rfl
theorem is_tup {K : PySem.W.Frag} : PySem.W.kitAny K (.type "tuple") [.type "list", .type "tuple"] = some true := kitAny_cons (kit_ty (b := "list") (r := false) (by decide +kernel)) (fun _ => kitAny_cons (kit_ty (b := "tuple") (r := true) (by decide +kernel)) (fun z => nomatch z) fun _ => rfl) fun z => nomatch z

def spIsInt (K : PySem.W.Frag) : Sp := fun vs H Q _ => ∃ v, vs = [v] ∧ ((NotInt K H v ∧ Q (.bl false) H) ∨ ∃ n, v = .int n ∧ Q (.bl true) H)
def spWithin (K : PySem.W.Frag) : Sp := fun vs H Q _ => ∃ (v : V) (lo hi : Int), vs = [v, .int lo, .int hi] ∧ ((NotInt K H v ∧ Q (.bl false) H) ∨ ∃ n, v = .int n ∧ Q (.bl (decide (lo ≤ n) && decide (n ≤ hi))) H)
def spListed (K : PySem.W.Frag) : Sp := fun vs H Q _ => ∃ v, vs = [v] ∧ ((NotSeq K H v ∧ ∀ H', Same H H' → Q (.bl false) H') ∨ ∃ a xs, v = .ref a ∧ SqA H a xs ∧ ∀ H', Same H H' → Q (.bl true) H')
/-- each item an int (true), or none -/
def IBs (K : PySem.W.Frag) (H : Hp) (xs : List V) (bs : List Bool) : Prop := xs.length = bs.length ∧ ∀ (i : Nat) (x : V), xs[i]? = some x → ∃ b, bs[i]? = some b ∧ ((b = true ∧ ∃ n, x = .int n) ∨ (b = false ∧ NotInt K H x))
theorem IBs.same {K : PySem.W.Frag} {H H' : Hp} {xs : List V} {bs : List Bool} (s : Same H H') (h : IBs K H xs bs) : IBs K H' xs bs :=
  ⟨h.1, fun i x e => let ⟨b, e1, z⟩ := h.2 i x e; ⟨b, e1, z.imp id fun z => ⟨z.1, z.2.same s⟩⟩⟩
theorem IBs.ints {K : PySem.W.Frag} {H : Hp} (ns : List Int) : IBs K H (ns.map V.int) (List.replicate ns.length true) := by
  refine ⟨by simp, fun i x e => ?_⟩
  rw [List.getElem?_map] at e
  have hi : i < ns.length := by
    cases q : ns[i]? with
    | none => rw [q] at e; cases e
    | some n => exact (List.getElem?_eq_some_iff.mp q).1
  refine ⟨true, by rw [List.getElem?_replicate, if_pos hi], .inl ⟨rfl, ?_⟩⟩
  cases q : ns[i]? with
  | none => rw [q] at e; cases e
  | some n => rw [q] at e; cases e; exact ⟨n, rfl⟩
def spAreInts (K : PySem.W.Frag) : Sp := fun vs H Q _ => ∃ v, vs = [v] ∧ ((NotSeq K H v ∧ ∀ H', Same H H' → Q (.bl false) H') ∨ ∃ a xs bs, v = .ref a ∧ SqA H a xs ∧ xs.length ≤ 1000 ∧ IBs K H xs bs ∧ ∀ H', Same H H' → Q (.bl (bs.all id)) H')
theorem take_bl {bs : List Bool} {i : Nat} {b : Bool} (h : bs[i]? = some b) : (bs.take i).map V.bl ++ [V.bl b] = (bs.take (i + 1)).map V.bl := by
  obtain ⟨hi, e⟩ := List.getElem?_eq_some_iff.mp h
  rw [List.take_succ_eq_append_getElem hi, List.map_append, e]
  rfl
theorem call1 {sp : Sp} {E : XK} {i : Nat} {σ : L2.St} {H : Hp} {Q : VK} {v : V} (hv : σ[i]? = some (some v)) (h : sp [v] H Q E) : tCall sp [] E (tCons (tVar i) tNil) σ H Q := ⟨v, hv, h⟩
section
variable {P : Program} {w : World} {K : PySem.W.Frag} {mg : Str → Option Value} {base : Heap} {f C : Addr} {fd : FuncData}
abbrev HasInt (P : Program) (w : World) (K : PySem.W.Frag) (mg : Str → Option Value) (base : Heap) : Prop := Has P w K mg base CX0 1 "is_integer" ["value"] (spIsInt K)
abbrev HasListed (P : Program) (w : World) (K : PySem.W.Frag) (mg : Str → Option Value) (base : Heap) : Prop := Has P w K mg base CX0 1 "is_listed" ["value"] (spListed K)
abbrev HasWithin (P : Program) (w : World) (K : PySem.W.Frag) (mg : Str → Option Value) (base : Heap) : Prop := Has P w K mg base CX0 2 "is_within" ["value", "least", "most"] (spWithin K)
abbrev HasAreInts (P : Program) (w : World) (K : PySem.W.Frag) (mg : Str → Option Value) (base : Heap) : Prop := Has P w K mg base CX0 2 "are_integers" ["value"] (spAreInts K)
theorem scIsInt : FnScope ["value"] ["value"] (defScope sIsInt) := ⟨rfl, rfl, rfl, by decide +kernel, rfl, by decide +kernel, by decide +kernel⟩
theorem ok_isInt (G : Glob mg) (F : DefAt K "is_integer" "is_integer" sIsInt f fd) : FnOk P w K mg base CX0 1 f fd ["value"] (spIsInt K) := by
  refine okN F scIsInt (fun vs H Q E ⟨v, e, _⟩ => by rw [e]; rfl) (fun cdv A outer s H vs Q E hr ⟨v, e, h⟩ => ?_)
  subst e
  refine ⟨_, pss_one (ps_ret (pe_and (pe_callB call_isi (by rfl) G.isi (by decide +kernel) (pa_cons (pv 0) (pa_cons (pe_bltn (by rfl) G.int (by decide +kernel) (v := .ty "int") rfl) pa_nil)))
      (pe_one (pe_not (pe_callB call_isi (by rfl) G.isi (by decide +kernel) (pa_cons (pv 0) (pa_cons (pe_bltn (by rfl) G.bool (by decide +kernel) (v := .ty "bool") rfl) pa_nil))))))), ?_⟩
  rcases h with ⟨⟨t, c, ty, k1, k2⟩, q⟩ | ⟨n, rfl, q⟩
  · refine ⟨_, rfl, _, _, _, _, _, rfl, .ty "int", .base ty, k1, c, rfl, ?_⟩
    cases c with
    | false => exact iteF q
    | true => exact iteT ⟨_, rfl, _, _, _, _, _, rfl, .ty "bool", .base ty, k2 rfl, true, rfl, q⟩
  · exact ⟨_, rfl, _, _, _, _, _, rfl, .ty "int", .base (.int n), int1, true, rfl, iteT ⟨_, rfl, _, _, _, _, _, rfl, .ty "bool", .base (.int n), int2 rfl, false, rfl, q⟩⟩
theorem scListed : FnScope ["value"] ["value"] (defScope sListed) := ⟨rfl, rfl, rfl, by decide +kernel, rfl, by decide +kernel, by decide +kernel⟩
theorem ok_listed (G : Glob mg) (F : DefAt K "is_listed" "is_listed" sListed f fd) : FnOk P w K mg base CX0 1 f fd ["value"] (spListed K) := by
  refine okN F scListed (fun vs H Q E ⟨v, e, _⟩ => by rw [e]; rfl) (fun cdv A outer s H vs Q E hr ⟨v, e, h⟩ => ?_)
  subst e
  refine ⟨_, pss_one (ps_ret (pe_callB call_isiT (by rfl) G.isi (by decide +kernel) (pa_cons (pv 0) (pa_cons (pe_tup (pa_cons (pe_bltn (by rfl) G.lst (by decide +kernel) (v := .ty "list") rfl) (pa_cons (pe_bltn (by rfl) G.tup (by decide +kernel) (v := .ty "tuple") rfl) pa_nil))) pa_nil)))), ?_⟩
  refine ⟨_, rfl, (by show 2 ≤ sizeLine; decide), fun p np => ?_⟩
  have s1 : Same H (upd H p (.tup [.ty "list", .ty "tuple"])) := upd_new np
  obtain ⟨t, b, ty, k, q⟩ : ∃ (t : Value) (b : Bool), TyOf K H v t ∧ PySem.W.kitAny K t [.type "list", .type "tuple"] = some b ∧ ∀ H', Same H H' → Q (.bl b) H' := by
    rcases h with ⟨⟨t, ty, k⟩, q⟩ | ⟨a, xs, rfl, h | h, q⟩
    · exact ⟨t, false, ty, k, q⟩
    · exact ⟨_, true, .lst h, is_list, q⟩
    · exact ⟨_, true, .tup h, is_tup, q⟩
  exact ⟨_, p, _, t, [.type "list", .type "tuple"], b, rfl, upd_same, .cons (.ty _) (.cons (.ty _) .nil), .base (TyOf.keep s1 ty), k, q _ s1⟩
theorem scWithin : FnScope ["value", "least", "most"] ["value", "least", "most"] (defScope sWithin) := ⟨rfl, rfl, rfl, by decide +kernel, rfl, by decide +kernel, by decide +kernel⟩
theorem ok_within (HI : HasInt P w K mg base) (F : DefAt K "is_within" "is_within" sWithin f fd) : FnOk P w K mg base CX0 2 f fd ["value", "least", "most"] (spWithin K) := by
  obtain ⟨fi, fdi, mI, kI, bI, GI⟩ := HI.h
  refine okN F scWithin (fun vs H Q E ⟨v, lo, hi, e, _⟩ => by rw [e]; rfl) (fun cdv A outer s H vs Q E hr ⟨v, lo, hi, e, h⟩ => ?_)
  subst e
  refine ⟨_, pss_cons (ps_if (pt_not (pt_val (pe_call GI hr rfl mI kI bI .nil pass0 (pa_cons (pv 0) pa_nil)))) (pss_one (ps_ret pe_bl)) pss_nil)
    (pss_one (ps_ret (pe_and (pe_or (pe_cmpR op_isN (pv 1) pe_non (nomark _)) (pe_one (pe_cmpR op_le (pv 1) (pv 0) (nomark _))))
      (pe_one (pe_or (pe_cmpR op_isN (pv 2) pe_non (nomark _)) (pe_one (pe_cmpR op_le (pv 0) (pv 2) (nomark _)))))))), ?_⟩
  rcases h with ⟨ni, q⟩ | ⟨n, rfl, q⟩
  · exact ⟨_, rfl, v, rfl, .inl ⟨ni, false, rfl, iteT q⟩⟩
  · refine ⟨_, rfl, _, rfl, .inr ⟨n, rfl, true, rfl, iteF ?_⟩⟩
    refine ⟨_, rfl, rfl, false, rfl, iteF ⟨_, rfl, _, rfl, _, _, rfl, rfl, _, rfl, ?_⟩⟩
    by_cases hl : lo ≤ n
    · rw [decide_eq_true hl, Bool.true_and] at q
      rw [decide_eq_true hl]
      exact iteT ⟨_, rfl, rfl, false, rfl, iteF ⟨_, rfl, _, rfl, _, _, rfl, rfl, q⟩⟩
    · rw [decide_eq_false hl, Bool.false_and] at q
      rw [decide_eq_false hl]
      exact iteF q
theorem scAreInts : FnScope ["value", "item"] ["value"] (defScope sAreInts) := ⟨rfl, rfl, rfl, by decide +kernel, rfl, by decide +kernel, by decide +kernel⟩
theorem ok_areInts (G : Glob mg) (HI : HasInt P w K mg base) (HL : HasListed P w K mg base) (F : DefAt K "are_integers" "are_integers" sAreInts f fd) : FnOk P w K mg base CX0 2 f fd ["value"] (spAreInts K) := by
  obtain ⟨fi, fdi, mI, kI, bI, GI⟩ := HI.h
  obtain ⟨fl, fdl, mL, kL, bL, GL⟩ := HL.h
  refine okN F scAreInts (fun vs H Q E ⟨v, e, _⟩ => by rw [e]; rfl) (fun cdv A outer s H vs Q E hr ⟨v, e, h⟩ => ?_)
  subst e
  refine ⟨_, pss_one (ps_ret (pe_and (pe_call GL hr rfl mL kL bL .nil pass0 (pa_cons (pv 0) pa_nil))
        (pe_one (pe_callB (cr_all rfl) (by rfl) G.all (by decide +kernel) (pa_cons
          (pe_lc (own := [("item", 1)]) (g := gName 1) (tt := tYes) rfl scAreInts.nd (pi_seq (pv 0)) (blkOk_by (N := ["value", "item"]) (sc := defScope sAreInts) (by decide +kernel))
            (fun _ _ _ _ _ => pg_name (i := 1) scAreInts.nd rfl (Or.inl rfl)) (fun _ _ _ _ _ => pts_nil) (fun _ _ _ _ _ => pe_call GI hr rfl mI kI bI .nil pass0 (pa_cons (pv 1) pa_nil))) pa_nil))))), ?_⟩
  rcases h with ⟨ns, q⟩ | ⟨a, xs, bs, rfl, sq, hl, ib, q⟩
  · exact ⟨_, rfl, v, rfl, .inl ⟨ns, fun H1 s1 => ⟨false, rfl, iteF (q H1 s1)⟩⟩⟩
  · refine ⟨_, rfl, _, rfl, .inr ⟨a, xs, rfl, sq, fun H1 s1 => ⟨true, rfl, iteT ?_⟩⟩⟩
    refine ⟨_, rfl, a, rfl, ?_⟩
    refine lc_seqA (sq.same s1) fun D hD => ⟨fun i H2 => Same H1 H2 ∧ H2 D = some (.lst ((bs.take i).map V.bl)), ⟨upd_new hD, by simpa using upd_same⟩, fun i H2 _ z => ?_, ?_, ?_⟩
    · obtain ⟨o, e⟩ := (sq.same s1).there
      rw [e, z.1 _ _ e]
    · rintro i x H2 hx ⟨s2, h2⟩
      refine ⟨rfl, yes_of ?_⟩
      obtain ⟨b, eb, z⟩ := (ib.same (s1.trans s2)).2 i x hx
      have fin : ∃ acc, H2 D = some (.lst acc) ∧ acc.length < sizeLine ∧ (Same H1 (upd H2 D (.lst (acc ++ [.bl b]))) ∧ upd H2 D (.lst (acc ++ [.bl b])) D = some (.lst ((bs.take (i + 1)).map V.bl))) := by
        refine ⟨_, h2, ?_, fun c o e => ?_, ?_⟩
        · have := (List.getElem?_eq_some_iff.mp hx).1
          rw [List.length_map, List.length_take, sizeLine_eq]
          omega
        · rw [upd_ne (ne_of_none e hD)]
          exact s2 c o e
        · rw [upd_same, take_bl eb]
      rcases z with ⟨rfl, n, rfl⟩ | ⟨rfl, ni⟩
      · exact ⟨_, rfl, _, rfl, .inr ⟨n, rfl, fin⟩⟩
      · exact ⟨_, rfl, _, rfl, .inl ⟨ni, fin⟩⟩
    · rintro H2 ⟨s2, h2⟩
      rw [ib.1, List.take_length] at h2
      exact ⟨D, bs, rfl, SqL.of h2, q H2 (s1.trans s2)⟩
end
end K18

/-! k18: check_none_twice, check_hand, hands_told, done_told. -/
namespace K18
open PySem PySem.Spec PyProof.Rows L2 LamX K1

abbrev InM (m n : Int) : Prop := 0 ≤ n ∧ n < m
/-- the errors' classes, with what their raising needs -/
structure Errs (P : Program) (w : World) (K : PySem.W.Frag) (mg : Str → Option Value) (base : Heap) (CW CD CH CT CU CM : Addr) : Prop where
  swap : ErrR P w K mg base CW "BadSwap" ["part"]
  done : ErrR P w K mg base CD "BadDone" ["part"]
  hand : ErrR P w K mg base CH "NoHand" ["number"]
  twice : ErrR P w K mg base CT "Twice" ["value"]
  unlike : ErrR P w K mg base CU "Unlike" ["what"]
  many : ErrR P w K mg base CM "TooMany" ["what", "most"]
theorem ToldF.from {H H1 H' : Hp} {d : Addr} {fs : List (Str × V)} (s : Same H H1) (h : ToldF H1 H' d fs) : ToldF H H' d fs := ⟨fun b o e => h.same b o (s b o e), s.free h.new, h.at_⟩
/-- the first that stands twice -/
def DupAt (ns : List Int) (i : Nat) (n : Int) : Prop := ns[i]? = some n ∧ n ∈ ns.take i ∧ (ns.take i).Nodup
def spTwice (CT : Addr) : Sp := fun vs H Q E => ∃ (a : Addr) (ns : List Int), vs = [.ref a] ∧ SqA H a (ns.map V.int) ∧ ns.length ≤ 1000 ∧ (ns.Nodup → ∀ H', Same H H' → Q .non H') ∧
  ∀ i n, DupAt ns i n → ∀ d H', ToldF H H' d [("value", .int n)] → E (.ref CT) (some d) H'
def spHand (K : PySem.W.Frag) (CH : Addr) : Sp := fun vs H Q E => ∃ (m : Int) (v : V), vs = [.int m, v] ∧ ((∃ n, v = .int n ∧ InM m n ∧ ∀ H', Same H H' → Q .non H') ∨
  ((NotInt K H v ∨ ∃ n, v = .int n ∧ ¬ InM m n) ∧ ∀ d H', ToldF H H' d [("number", v)] → E (.ref CH) (some d) H'))
/-- hands_told: an odd value; or ints, with what becomes of them -/
def HandsW (K : PySem.W.Frag) (CD CH CT : Addr) (m : Int) (v part : V) (H : Hp) (E : XK) (k : List Int → Addr → Prop) : Prop :=
  ((NotSeq K H v ∨ ∃ a xs bs, v = .ref a ∧ SqA H a xs ∧ xs.length ≤ 1000 ∧ IBs K H xs bs ∧ bs.all id = false) ∧ ∀ d H', ToldF H H' d [("part", part)] → E (.ref CD) (some d) H') ∨
  (∃ (a : Addr) (ns : List Int), v = .ref a ∧ SqA H a (ns.map V.int) ∧ ns.length ≤ 1000 ∧
    (∀ i n, ns[i]? = some n → ¬ InM m n → (∀ x ∈ ns.take i, InM m x) → ∀ d H', ToldF H H' d [("number", .int n)] → E (.ref CH) (some d) H') ∧
    ((∀ x ∈ ns, InM m x) → ∀ i n, DupAt ns i n → ∀ d H', ToldF H H' d [("value", .int n)] → E (.ref CT) (some d) H') ∧
    ((∀ x ∈ ns, InM m x) → ns.Nodup → k ns a))
def spHands (K : PySem.W.Frag) (CD CH CT : Addr) : Sp := fun vs H Q E => ∃ (m : Int) (v part : V), vs = [.int m, v, part] ∧ HandsW K CD CH CT m v part H E fun ns a => ∀ (t : Addr) (H' : Hp), Same H H' → H' t = some (.tup (ns.map V.int)) → Q (.ref t) H'
def spDone (K : PySem.W.Frag) (CD CH CT : Addr) : Sp := fun vs H Q E => ∃ (m : Int) (v part : V), vs = [.int m, v, part] ∧ HandsW K CD CH CT m v part H E fun ns a => ∀ (ms : List Int) (t : Addr) (H' : Hp), ms.Perm ns → ms.Pairwise (· ≤ ·) → Same H H' → H' t = some (.tup (ms.map V.int)) → Q (.ref t) H'
section
variable {P : Program} {w : World} {K : PySem.W.Frag} {mg : Str → Option Value} {base : Heap} {f C CW CD CH CT CU CM : Addr} {fd : FuncData}
theorem decIn (m n : Int) : (decide (0 ≤ n) && decide (n ≤ m - 1)) = decide (InM m n) := by
  by_cases h : InM m n
  · rw [decide_eq_true h, decide_eq_true h.1, decide_eq_true (by have := h.2; omega : n ≤ m - 1)]; rfl
  · rw [decide_eq_false h]
    by_cases h0 : 0 ≤ n
    · rw [decide_eq_true h0, decide_eq_false (fun z => h ⟨h0, by omega⟩)]; rfl
    · rw [decide_eq_false h0]; rfl
theorem scHand : FnScope ["many", "value"] ["many", "value"] (defScope sHand) := ⟨rfl, rfl, rfl, by decide +kernel, rfl, by decide +kernel, by decide +kernel⟩
theorem ok_hand (HW : HasWithin P w K mg base) (B : Errs P w K mg base CW CD CH CT CU CM) (F : DefAt K "check_hand" "check_hand" sHand f fd) : FnOk P w K mg base (L2.CX P w) 4 f fd ["many", "value"] (spHand K CH) := by
  obtain ⟨fw, fdw, mW, kW, bW, GW⟩ := HW.h
  refine okX F scHand (fun vs H Q E ⟨m, v, e, _⟩ => by rw [e]; rfl) (fun cdv A outer s H vs Q E hr ⟨m, v, e, h⟩ => ?_)
  subst e
  have tk : Takes (cxOf (L2.CX P w) P w K mg base ["many", "value"] "check_hand" (defScope sHand) f cdv A outer s H E) (fun cls d _ H' => E cls d H') := takes_of rfl rfl rfl rfl
  refine ⟨_, pss_one (ps_if (pt_not (pt_val (pe_call GW (hr.mono (by decide)) rfl mW kW bW .nil pass0 (pa_cons (pv 1) (pa_cons pe_int (pa_cons (pe_op op_sub (pv 0) pe_int) pa_nil)))))) (pss_one (ps_rs B.hand rfl tk (hr.mono (by decide)) (pa_cons (pv 1) pa_nil))) pss_nil), ?_⟩
  refine ⟨_, rfl, _, rfl, _, _, rfl, rfl, v, 0, m - 1, rfl, ?_⟩
  rcases h with ⟨n, rfl, hn, q⟩ | ⟨h, q⟩
  · refine .inr ⟨n, rfl, true, by rw [decIn, decide_eq_true hn], iteF ?_⟩
    exact q H (Same.refl H)
  · rcases h with ni | ⟨n, rfl, hn⟩
    · exact .inl ⟨ni, false, rfl, iteT (rs_v rfl q)⟩
    · exact .inr ⟨n, rfl, false, by rw [decIn, decide_eq_false hn], iteT (rs_v rfl q)⟩
theorem scTwice : FnScope ["items", "met", "item"] ["items"] (defScope sNoneTwice) := ⟨rfl, rfl, rfl, by decide +kernel, rfl, by decide +kernel, by decide +kernel⟩
theorem putK_len {kvs : List (Key × V)} {k : Key} {v : V} : (putK kvs k v).length ≤ kvs.length + 1 := by
  unfold putK
  split
  · simp
  · simp
theorem ok_twice (B : Errs P w K mg base CW CD CH CT CU CM) (F : DefAt K "check_none_twice" "check_none_twice" sNoneTwice f fd) : FnOk P w K mg base (L2.CX P w) 4 f fd ["items"] (spTwice CT) := by
  refine okX F scTwice (fun vs H Q E ⟨a, ns, e, _⟩ => by rw [e]; rfl) (fun cdv A outer s H vs Q E hr ⟨a, ns, e, sq, hl, q1, q2⟩ => ?_)
  subst e
  have hu := hu_of hr
  have tk : Takes (cxOf (L2.CX P w) P w K mg base ["items", "met", "item"] "check_none_twice" (defScope sNoneTwice) f cdv A outer s H E) (fun cls d _ H' => E cls d H') := takes_of rfl rfl rfl rfl
  refine ⟨_, pss_cons (ps_set (i := 1) scTwice.nd rfl (Or.inl rfl) pe_dnewK) (pss_one (ps_for (passes_of rfl) rfl (pi_seq (pv 0)) (pg_name (i := 2) scTwice.nd rfl (Or.inl rfl))
    (pss_cons (ps_if (pt_cmp (pc_din hu (pv 2) (pv 1))) (pss_one (ps_rs B.twice rfl tk (hr.mono (by decide)) (pa_cons (pv 2) pa_nil))) pss_nil)
    (pss_one (ps_dput hu (pv 1) (pv 2) pe_bl rfl))))), ?_⟩
  intro M hM
  have sM := upd_new (o := .dK []) hM
  have aM : a ≠ M := sq.ne hM
  refine ⟨_, rfl, a, rfl, ?_⟩
  refine for_seqA (sq.same sM) (fun i σ H2 => ∃ (kvs : List (Key × V)) (z : Option V), σ = [some (.ref a), some (.ref M), z] ∧ H2 = upd H M (.dK kvs) ∧ kvs.length ≤ i ∧ (ns.take i).Nodup ∧ ∀ n : Int, valV kvs (Sum.inl n) = if n ∈ ns.take i then some (.bl true) else none)
    ⟨[], none, rfl, rfl, Nat.zero_le _, by simp, fun n => by simp [valV_nil]⟩ ?_ ?_ ?_
  · rintro i σ' H' _ ⟨kvs, z, _, rfl, _⟩
    rw [upd_ne aM, upd_ne aM]
  · rintro i x σ H2 hx ⟨kvs, z, rfl, rfl, lk, nd, val⟩
    rw [List.getElem?_map] at hx
    obtain ⟨n, hn, rfl⟩ : ∃ n, ns[i]? = some n ∧ x = .int n := by
      cases e : ns[i]? with
      | none => rw [e] at hx; cases hx
      | some n => rw [e] at hx; cases hx; exact ⟨n, rfl, rfl⟩
    have hi := (List.getElem?_eq_some_iff.mp hn).1
    refine ⟨_, rfl, _, rfl, M, _, rfl, DGet.k (k := Sum.inl n) upd_same, _, rfl, ?_⟩
    rw [val n]
    by_cases hm : n ∈ ns.take i
    · rw [if_pos hm]
      exact iteT (rs_v rfl fun d H' t => q2 i n ⟨hn, hm, nd⟩ d H' (t.from (upd_new hM)))
    · rw [if_neg hm]
      refine iteF ⟨_, rfl, _, rfl, M, _, rfl, DPut.k (k := Sum.inl n) upd_same (by rw [sizeLine_eq]; omega), ?_⟩
      refine ⟨putK kvs (Sum.inl n) (.bl true), _, rfl, by rw [upd_upd], Nat.le_trans putK_len (by omega), ?_, fun j => ?_⟩
      · obtain ⟨hj, ej⟩ := List.getElem?_eq_some_iff.mp hn
        rw [List.take_succ_eq_append_getElem hj, ej]
        refine List.nodup_append.mpr ⟨nd, by simp, fun y hy z hz => ?_⟩
        rw [List.mem_singleton] at hz
        subst hz
        rintro rfl
        exact hm hy
      · obtain ⟨hj, ej⟩ := List.getElem?_eq_some_iff.mp hn
        rw [valV_put, val j, List.take_succ_eq_append_getElem hj, ej]
        by_cases e : j = n
        · subst e; simp
        · simp [e]
  · rintro σ H2 ⟨kvs, z, rfl, rfl, lk, nd, val⟩
    rw [List.length_map, List.take_length] at nd
    exact q1 nd _ (upd_new hM)
end
end K18

/-! k18: sorted(a tuple of ints). -/
namespace K18
open PySem PySem.Spec PyProof.Rows L2 LamX K1

def rSortedTI (K : PySem.W.Frag) : List V → Hp → VK → Prop := fun vs H Q => ∃ (a : Addr) (ns : List Int), vs = [V.ref a] ∧ SqT K H a (ns.map V.int) ∧ ∀ (ms : List Int) (p : Addr), ms.Perm ns → ms.Pairwise (· ≤ ·) → H p = none → Q (.ref p) (upd H p (.lst (ms.map V.int)))
theorem obj_there {P : Program} {w : World} {H : Hp} {h : Heap} {a : Addr} : ∀ {o : HO}, ObjOk P w H h a o → ∃ u, h.get? a = some u
  | .lst _, ⟨_, _, _, _, e⟩ => ⟨_, e⟩
  | .tup _, ⟨_, _, _, ⟨o, e, _⟩⟩ => ⟨o, e⟩
  | .dK _, ⟨_, _, _, _, o, _, _, e, _⟩ => ⟨o, e⟩
  | .dT _, ⟨_, _, _, _, o, _, _, e, _⟩ => ⟨o, e⟩
  | .set _ _, ⟨o, _, _, _, e, _⟩ => ⟨o, e⟩
  | .ins _ _ _, ⟨_, _, _, e, _⟩ => ⟨_, e⟩
  | .own _, e => e
  | .xd _, ⟨_, ⟨o, _, _, e, _⟩, _⟩ => ⟨o, e⟩
  | .rng _ _, ⟨_, _, _, e⟩ => ⟨_, e⟩
  | .frz _ _, ⟨e, _⟩ => ⟨_, e⟩
  | .tbl _, e => ⟨_, e⟩
  | .met _ _, e => ⟨_, e⟩
  | .ext _, ⟨_, e, _⟩ => e
theorem cr_sortedTI {X : Cx} : CallR X (.builtin "sorted") (rSortedTI X.K) := by
  intro pins s σ H vs us Q I r h
  obtain ⟨a, ns, rfl, hs, q⟩ := h
  obtain ⟨its, rv, hl, hz⟩ := I.tuple hs
  rw [Vals.ref1 r]
  have hi := rv.ints
  have hz2 : its.length ≤ sizeLine := by rw [← rv.length]; exact hz
  obtain ⟨o, ho, hc, n, hd⟩ := (show s.heap.IsTuple a its.toArray from hl)
  refine Calls.call_function_entry kind_sorted plain_sorted entry_sorted (args_sorted1 _) ?_
  unfold Builtin.«sorted»
  refine wpAny_bind (m := checkCount "sorted" 1 1 _) (wpAny_pure ?_)
  refine wpAny_bind (wpAny_collect_seq a (.inr rfl) ho hc hd (fun g keep => ?_) (by simpa using hz2))
  refine wpAny_bind (wpAny_newList ?_ (by simpa using hz2))
  have at1 : (g.push (seqObj "list" its.toArray 0)).get? g.objs.size = some (seqObj "list" its.toArray 0) := Heap.get?_push_size _ rfl
  refine wpAny_bind (wpAny_holding (wpAny_call_entry slot_list_sort ⟨_, at1, rfl⟩ entry_list_sort (SrtO.list_sort_ord SrtO.swo_int at1 hz2 (fun h2 => SrtO.ints_sortable hi h2) fun out h1 h2 => ⟨_, rfl, ?_⟩) (args_list_sort _)))
  obtain ⟨k1, k2, k3⟩ := SrtO.ints_out hi h1 h2
  obtain ⟨ep, at2⟩ := PyProof.Rows.sortedHeap_at (vs := its) (out := out.toArray) at1
  have len : ((out.map SrtO.iv).map V.int).length ≤ sizeLine := by
    rw [List.length_map, k2.length_eq]
    rw [List.length_map] at hz
    exact hz
  have nh : s.heap.get? g.objs.size = none := by
    cases e : s.heap.get? g.objs.size with
    | none => rfl
    | some o => exact absurd (Heap.lt_size (keep _ _ e)) (Nat.lt_irrefl _)
  have nH : H g.objs.size = none := by
    cases e : H g.objs.size with
    | none => rfl
    | some u =>
      obtain ⟨o, e2⟩ := obj_there (I.hok _ u e)
      rw [nh] at e2
      cases e2
  have J : Inv X pins σ (upd H g.objs.size (.lst ((out.map SrtO.iv).map V.int))) { s with heap := PyProof.Rows.sortedHeap (g.push (seqObj "list" its.toArray 0)) g.objs.size its out.toArray, toks := s.toks } := by
    refine L2.Inv.laidN I (fun b u e => ?_) nh nH ⟨len, out, ep, vals_of_ints k1, at2⟩
    have e1 := Heap.get?_push_of_some (seqObj "list" its.toArray 0) (keep b u e)
    rw [PyProof.Rows.sortedHeap_old (Nat.ne_of_lt (Heap.lt_size (keep b u e))) (Heap.lt_size e1)]
    exact e1
  exact wpAny_pure ⟨_, rfl, .ref g.objs.size, _, J, rfl, q _ _ k2 k3 nH⟩
end K18

/-! k18: hands_told, done_told, mask_of, numbers_in. -/
namespace K18
open PySem PySem.Spec PyProof.Rows L2 LamX K1

theorem ints_at {ns : List Int} {i : Nat} {x : V} (h : (ns.map V.int)[i]? = some x) : ∃ n, ns[i]? = some n ∧ x = .int n := by
  rw [List.getElem?_map] at h
  cases e : ns[i]? with
  | none => rw [e] at h; cases h
  | some n => rw [e] at h; cases h; exact ⟨n, rfl, rfl⟩
section
variable {P : Program} {w : World} {K : PySem.W.Frag} {mg : Str → Option Value} {base : Heap} {f C CW CD CH CT CU CM : Addr} {fd : FuncData}
abbrev HasHand (P : Program) (w : World) (K : PySem.W.Frag) (mg : Str → Option Value) (base : Heap) (CH : Addr) : Prop := Has P w K mg base (L2.CX P w) 4 "check_hand" ["many", "value"] (spHand K CH)
abbrev HasTwice (P : Program) (w : World) (K : PySem.W.Frag) (mg : Str → Option Value) (base : Heap) (CT : Addr) : Prop := Has P w K mg base (L2.CX P w) 4 "check_none_twice" ["items"] (spTwice CT)
abbrev HasHands (P : Program) (w : World) (K : PySem.W.Frag) (mg : Str → Option Value) (base : Heap) (CD CH CT : Addr) : Prop := Has P w K mg base (L2.CX P w) 5 "hands_told" ["many", "value", "part"] (spHands K CD CH CT)
abbrev HasDone (P : Program) (w : World) (K : PySem.W.Frag) (mg : Str → Option Value) (base : Heap) (CD CH CT : Addr) : Prop := Has P w K mg base (L2.CX P w) 6 "done_told" ["many", "value", "part"] (spDone K CD CH CT)
abbrev nHands : List Str := ["many", "value", "part", "number"]
theorem scHands : FnScope nHands ["many", "value", "part"] (defScope sHands) := ⟨rfl, rfl, rfl, by decide +kernel, rfl, by decide +kernel, by decide +kernel⟩
theorem ok_hands (G : Glob mg) (HI : HasAreInts P w K mg base) (HW : HasWithin P w K mg base) (HT : HasTwice P w K mg base CT) (B : Errs P w K mg base CW CD CH CT CU CM) (F : DefAt K "hands_told" "hands_told" sHands f fd) :
    FnOk P w K mg base (L2.CX P w) 5 f fd ["many", "value", "part"] (spHands K CD CH CT) := by
  obtain ⟨fi, fdi, mI, kI, bI, GI⟩ := HI.h
  obtain ⟨fw, fdw, mW, kW, bW, GW⟩ := HW.h
  obtain ⟨ft, fdt, mT, kT, bT, GT⟩ := HT.h
  refine okX F scHands (fun vs H Q E ⟨m, v, part, e, _⟩ => by rw [e]; rfl) (fun cdv A outer s H vs Q E hr ⟨m, v, part, e, h⟩ => ?_)
  subst e
  have tk : Takes (cxOf (L2.CX P w) P w K mg base nHands "hands_told" (defScope sHands) f cdv A outer s H E) (fun cls d _ H' => E cls d H') := takes_of rfl rfl rfl rfl
  have ps := passes_call tk (E := E) fun _ _ _ _ z => z
  refine ⟨_, pss_cons (ps_if (pt_not (pt_val (pe_call GI (hr.mono (by decide)) rfl mI kI bI .nil pass0 (pa_cons (pv 1) pa_nil)))) (pss_one (ps_rs B.done rfl tk (hr.mono (by decide)) (pa_cons (pv 2) pa_nil))) pss_nil)
    (pss_cons (ps_for (passes_of rfl) rfl (pi_seq (pv 1)) (pg_name (i := 3) scHands.nd rfl (Or.inl rfl))
      (pss_one (ps_if (pt_not (pt_val (pe_call GW (hr.mono (by decide)) rfl mW kW bW .nil pass0 (pa_cons (pv 3) (pa_cons pe_int (pa_cons (pe_op op_sub (pv 0) pe_int) pa_nil)))))) (pss_one (ps_rs B.hand rfl tk (hr.mono (by decide)) (pa_cons (pv 3) pa_nil))) pss_nil)))
    (pss_cons (ps_expr (pe_call GT hr rfl mT kT bT .nil ps (pa_cons (pv 1) pa_nil)))
    (pss_one (ps_ret (pe_callTy call_tuple_of (by rfl) G.tup (by decide +kernel) (pa_cons (pv 1) pa_nil)))))), ?_⟩
  rcases h with ⟨h, q⟩ | ⟨a, ns, rfl, sq, hl, qH, qT, qK⟩
  · refine call1 (i := 1) rfl ⟨v, rfl, ?_⟩
    rcases h with ni | ⟨a, xs, bs, rfl, sq, hl, ib, all⟩
    · exact .inl ⟨ni, fun H1 s1 => ⟨false, rfl, iteT (rs_v rfl fun d H' t => q d H' (t.from s1))⟩⟩
    · refine .inr ⟨a, xs, bs, rfl, sq, hl, ib, fun H1 s1 => ⟨false, by rw [all], iteT (rs_v rfl fun d H' t => q d H' (t.from s1))⟩⟩
  · refine call1 (i := 1) rfl ⟨_, rfl, .inr ⟨a, _, _, rfl, sq, by rw [List.length_map]; exact hl, IBs.ints ns, fun H1 s1 => ⟨true, by simp, iteF ?_⟩⟩⟩
    have sq1 := sq.same s1
    refine ⟨_, rfl, a, rfl, ?_⟩
    refine for_seqA sq1 (fun i σ H2 => H2 = H1 ∧ (∀ x ∈ ns.take i, InM m x) ∧ ∃ z, σ = [some (.int m), some (.ref a), some part, z]) ⟨rfl, fun x hx => by simp at hx, none, rfl⟩ (fun i σ' H' _ z => by rw [z.1]) ?_ ?_
    · rintro i x σ H2 hx ⟨rfl, al, z, rfl⟩
      obtain ⟨n, hn, rfl⟩ := ints_at hx
      refine ⟨_, rfl, _, rfl, _, _, rfl, rfl, _, 0, m - 1, rfl, .inr ⟨n, rfl, decide (InM m n), by rw [decIn], ?_⟩⟩
      by_cases hin : InM m n
      · rw [decide_eq_true hin]
        refine iteF ⟨rfl, fun y hy => ?_, _, rfl⟩
        obtain ⟨hj, ej⟩ := List.getElem?_eq_some_iff.mp hn
        rw [List.take_succ_eq_append_getElem hj, ej] at hy
        rcases List.mem_append.mp hy with hy | hy
        · exact al y hy
        · rw [List.mem_singleton] at hy; subst hy; exact hin
      · rw [decide_eq_false hin]
        exact iteT (rs_v rfl fun d H' t => qH i n hn hin al d H' (t.from s1))
    · rintro σ H2 ⟨rfl, al, z, rfl⟩
      rw [List.length_map, List.take_length] at al
      refine call1 (i := 1) rfl ⟨a, ns, rfl, sq1, hl, fun nd H3 s3 => ?_, fun i n dup d H' t => qT al i n dup d H' (t.from s1)⟩
      have fin := qK al nd
      refine ⟨_, rfl, a, ns.map V.int, rfl, ?_⟩
      rcases sq1.same s3 with h3 | h3
      · exact .inl ⟨SqL.of h3, fun l nl => fin l _ ((s1.trans s3).trans (upd_new nl)) upd_same⟩
      · exact .inr ⟨SqT.of h3, fin a _ (s1.trans s3) h3⟩
theorem scDone : FnScope ["many", "value", "part"] ["many", "value", "part"] (defScope sDone) := ⟨rfl, rfl, rfl, by decide +kernel, rfl, by decide +kernel, by decide +kernel⟩
theorem ok_done (G : Glob mg) (HH : HasHands P w K mg base CD CH CT) (F : DefAt K "done_told" "done_told" sDone f fd) : FnOk P w K mg base (L2.CX P w) 6 f fd ["many", "value", "part"] (spDone K CD CH CT) := by
  obtain ⟨fh, fdh, mH, kH, bH, GH⟩ := HH.h
  refine okX F scDone (fun vs H Q E ⟨m, v, part, e, _⟩ => by rw [e]; rfl) (fun cdv A outer s H vs Q E hr ⟨m, v, part, e, h⟩ => ?_)
  subst e
  have tk : Takes (cxOf (L2.CX P w) P w K mg base ["many", "value", "part"] "done_told" (defScope sDone) f cdv A outer s H E) (fun cls d _ H' => E cls d H') := takes_of rfl rfl rfl rfl
  have ps := passes_call tk (E := E) fun _ _ _ _ z => z
  refine ⟨_, pss_one (ps_ret (pe_callTy call_tuple_of (by rfl) G.tup (by decide +kernel) (pa_cons (pe_callB cr_sortedTI (by rfl) G.sorted (by decide +kernel) (pa_cons (pe_call GH hr rfl mH kH bH .nil ps (pa_cons (pv 0) (pa_cons (pv 1) (pa_cons (pv 2) pa_nil)))) pa_nil)) pa_nil))), ?_⟩
  refine ⟨_, rfl, _, rfl, _, rfl, m, v, part, rfl, ?_⟩
  rcases h with h | ⟨a, ns, rfl, sq, hl, qH, qT, qK⟩
  · exact .inl h
  · refine .inr ⟨a, ns, rfl, sq, hl, qH, qT, fun al nd t H1 s1 h1 => ?_⟩
    refine ⟨t, ns, rfl, SqT.of h1, fun ms p pm srt hp => ?_⟩
    exact ⟨p, _, rfl, .inl ⟨SqL.of upd_same, fun l nl => qK al nd ms l _ pm srt ((s1.trans (upd_new hp)).trans (upd_new nl)) upd_same⟩⟩
end
end K18

/-! k05: ratios in sixths as objects; their makings, sums, negatives, ==. -/
namespace K5
open PySem PySem.Spec PyProof.Rows L2 LamX K1 K18

theorem pe_dead {X : Cx} {e : Expr} : PE X e (fun _ _ _ => False) := ⟨fun _ _ _ _ _ _ h => h.elim⟩
theorem pss_dead {X : Cx} {st : List Stmt} : PSs X st (fun _ _ _ => False) := ⟨fun _ _ _ _ _ _ h => h.elim⟩
/-- a class whose instances are tracked -/
structure ClsF (K : PySem.W.Frag) (C : Addr) : Prop where
  cl : Cls K C
  ha : PySem.W.findIn K (.ref C) "__class__" = some (some (.builtin "object.__class__"))
  hn : PySem.W.specialIn K (.builtin "object.__class__") "__get__" = some (some (.builtin "getset_descriptor.__get__"))
  ht : PySem.W.takesIn K (.builtin "object.__class__") = some true
  hm : PySem.W.mroIn K C (.type "object") = some true
  me : PySem.W.kitOne K (.ref C) (.ref C) = some true
theorem ClsF.ty {K : PySem.W.Frag} {C a dx : Addr} {H : Hp} {fs : List (Str × V)} (F : ClsF K C) (h : H a = some (.ins C dx fs)) : TyOf K H (.ref a) (.ref C) := .ins h F.cl F.ha F.hn F.ht F.hm
/-- // of ints by any divisor of less than 9000 bits, below 0 too -/
def CDivZ (_ j : Int) : Prop := j ≠ 0 ∧ j.natAbs.log2 < 9000
theorem op_fdivZ {X : Cx} : OpR X (binaryOp .FloorDiv) (rI CDivZ fun i j => .int (i.fdiv j)) := opI fun i j _ _ _ _ _ hc q => floordiv_int hc.1 q (.inl (PyProof.noPylong_of_log2 hc.2))
theorem decI (a b : Int) : decide (V.int a = V.int b) = decide (a = b) := decide_eq_decide.mpr ⟨fun h => V.int.inj h, fun h => by rw [h]⟩
theorem decS (a b : Str) : decide (V.str a = V.str b) = decide (a = b) := decide_eq_decide.mpr ⟨fun h => V.str.inj h, fun h => by rw [h]⟩
theorem tb_ne : ¬ (("top" : Str) = "bottom") := by decide +kernel
/-- its attributes -/
def fsR (t b : Int) : List (Str × V) := putF "bottom" (.int b) (putF "top" (.int t) [])
theorem fsR_top (t b : Int) : (fsR t b).lookup ("top" : Str) = some (.int t) := by unfold fsR; rw [lookup_putF, if_neg tb_ne, lookup_putF, if_pos rfl]
theorem fsR_bottom (t b : Int) : (fsR t b).lookup ("bottom" : Str) = some (.int b) := by unfold fsR; rw [lookup_putF, if_pos rfl]
/-- at a stands the Ratio of s sixths -/
def Six (C : Addr) (H : Hp) (a : Addr) (s : Int) : Prop := ∃ dx, H a = some (.ins C dx (fsR (rT s 6) (rB s 6)))
theorem Six.same {C : Addr} {H H' : Hp} {a : Addr} {s : Int} (e : Same H H') (h : Six C H a s) : Six C H' a s := let ⟨dx, h⟩ := h; ⟨dx, e _ _ h⟩
/-- .. or the integer -/
def SixV (C : Addr) (H : Hp) (v : V) (s : Int) : Prop := (∃ a, v = .ref a ∧ Six C H a s) ∨ ∃ n, v = .int n ∧ s = 6 * n
theorem SixV.same {C : Addr} {H H' : Hp} {v : V} {s : Int} (e : Same H H') (h : SixV C H v s) : SixV C H' v s := h.imp (fun ⟨a, x, y⟩ => ⟨a, x, y.same e⟩) id
/-- not too great -/
abbrev Sm (s : Int) : Prop := s.natAbs < 2 ^ 60
structure RatF (K : PySem.W.Frag) (C : Addr) : Prop extends ClsF K C where
  nT : NoAttr K C "top"
  nB : NoAttr K C "bottom"
  noI : PySem.W.kitOne K (.ref C) (.type "int") = some false
  int : PySem.W.kitOne K (.type "int") (.ref C) = some false
theorem int_ty {K : PySem.W.Frag} {H : Hp} (n : Int) : TyOf K H (.int n) (.type "int") := .int n
def spRI (C : Addr) : Sp := fun vs H Q _ => ∃ (p dx : Addr) (t b : Int), vs = [.ref p, .int t, .int b] ∧ H p = some (.ins C dx []) ∧ b ≠ 0 ∧ t.natAbs < 2 ^ 100 ∧ b.natAbs < 2 ^ 100 ∧ Q .non (upd H p (.ins C dx (fsR (rT t b) (rB t b))))
section
variable {P : Program} {w : World} {K : PySem.W.Frag} {mg : Str → Option Value} {base : Heap} {f C : Addr} {fd : FuncData} {dv : List V}
theorem okD {x qual : Str} {st : Stmt} {N ps : List Str} {k : Nat} {sp : Sp}
    (F : FunD K x qual (defArgs st) (defBody st) (defScope st) dv [] f fd) (S : FnScope N ps (defScope st)) (len : ∀ vs H Q E, sp vs H Q E → vs.length = ps.length)
    (hb : ∀ (cdv : Value) (A : Around) (outer : List Env) (s : Shared) (H : Hp) (vs : List V) (Q : VK) (E : XK), Room k (A.deeper (envOfC qual (defScope st) s.heap.objs.size f cdv)) → sp vs H Q E →
      ∃ t, PSs (cxOf CX0 P w K mg base N qual (defScope st) f cdv A outer s H E).nox (defBody st) t ∧ t { nx := fun _ H' => Q .non H', rt := Q } (start N vs) H) : FnOk P w K mg base CX0 (k + 1) f fd ps sp :=
  F.ok S len fun cdv A outer s H vs Q E hr h => let ⟨t, h1, h2⟩ := hb cdv A outer s H vs Q E hr h; ⟨t, h1.nox, h2⟩
theorem scRI : FnScope ["self", "top", "bottom", "shared"] ["self", "top", "bottom"] (defScope sRInit) := ⟨rfl, rfl, rfl, by decide +kernel, rfl, by decide +kernel, by decide +kernel⟩
theorem ok_rinit (G : Glob mg) (R : RatF K C) (HI : HasInt P w K mg base) (F : FunD K "__init__" "Ratio.__init__" (defArgs sRInit) (defBody sRInit) (defScope sRInit) dv [] f fd) :
    FnOk P w K mg base CX0 2 f fd ["self", "top", "bottom"] (spRI C) := by
  obtain ⟨fi, fdi, mI, kI, bI, GI⟩ := HI.h
  refine okD F scRI (fun vs H Q E ⟨p, dx, vt, vb, e, _⟩ => by rw [e]; rfl) (fun cdv A outer s H vs Q E hr ⟨p, dx, t, b, e, hp, b0, st, sb, q⟩ => ?_)
  subst e
  refine ⟨_, pss_cons (ps_if (pt_not (pt_val (pe_call GI hr rfl mI kI bI .nil pass0 (pa_cons (pv 1) pa_nil)))) pss_dead pss_nil)
    (pss_cons (ps_if (PW.pt (pw_or (pt_not (pt_val (pe_call GI hr rfl mI kI bI .nil pass0 (pa_cons (pv 2) pa_nil)))) (pw_or1 (pt_cmpR op_eq (pv 2) pe_int (nomark _))))) pss_dead pss_nil)
    (pss_cons (ps_set (i := 3) scRI.nd rfl (Or.inl rfl) (pe_ifExp (pt_cmpR op_gt (pv 2) pe_int (nomark _)) (pe_callBfun cr_gcd (by rfl) G.gcd (pa_cons (pv 1) (pa_cons (pv 2) pa_nil)))
      (pe_un un_neg (pe_callBfun cr_gcd (by rfl) G.gcd (pa_cons (pv 1) (pa_cons (pv 2) pa_nil))))))
    (pss_cons (ps_fld (pv 0) (pe_op op_fdivZ (pv 1) (pv 3)) rfl)
    (pss_one (ps_fld (pv 0) (pe_op op_fdivZ (pv 2) (pv 3)) rfl))))), ?_⟩
  refine ⟨_, rfl, _, rfl, .inr ⟨t, rfl, true, rfl, iteF ?_⟩⟩
  refine ⟨_, rfl, _, rfl, .inr ⟨b, rfl, true, rfl, iteF ?_⟩⟩
  refine ⟨_, rfl, rfl, false, by rw [decI, decide_eq_false b0], iteF ?_⟩
  have dv : ∀ x, CDivZ x (com t b) := fun x => ⟨com_ne b0, by
    have g : (com t b).natAbs ≤ b.natAbs := by rw [com_abs]; exact Nat.gcd_le_right _ (by omega)
    exact Nat.lt_of_lt_of_le (PySem.Flt.log2_lt_of (by decide) (Nat.lt_of_le_of_lt g sb)) (by decide)⟩
  have c1 : ∀ {z : Int}, b > 0 → ((Nat.gcd t.natAbs b.natAbs : Nat) : Int) = z → z = com t b := fun h e => by rw [← e]; unfold com; rw [if_pos h]
  have c2 : ∀ {z : Int}, ¬ b > 0 → -((Nat.gcd t.natAbs b.natAbs : Nat) : Int) = z → z = com t b := fun h e => by rw [← e]; unfold com; rw [if_neg h]
  refine ⟨_, rfl, _, _, rfl, rfl, decide (0 < b), rfl, ?_⟩
  by_cases hb : b > 0
  · rw [decide_eq_true hb]
    refine iteT ⟨_, rfl, _, rfl, t, b, rfl, ?_⟩
    generalize hz : ((Nat.gcd t.natAbs b.natAbs : Nat) : Int) = z
    obtain rfl := c1 hb hz
    refine ⟨_, rfl, _, rfl, _, _, rfl, rfl, dv _, _, rfl, p, C, dx, [], rfl, hp, R.cl, R.nT, (by show 0 < 1000; decide), ?_⟩
    refine ⟨_, rfl, _, rfl, _, _, rfl, rfl, dv _, _, rfl, p, C, dx, _, rfl, upd_same, R.cl, R.nB, (by show 1 < 1000; decide), ?_⟩
    rw [upd_upd]
    exact q
  · rw [decide_eq_false hb]
    refine iteF ⟨_, rfl, _, rfl, t, b, rfl, _, rfl, ?_⟩
    have e : com t b = -((Nat.gcd t.natAbs b.natAbs : Nat) : Int) := (c2 hb rfl).symm
    unfold rT rB at q
    rw [e] at q
    rw [e] at dv
    refine ⟨_, rfl, _, rfl, _, _, rfl, rfl, dv _, _, rfl, p, C, dx, [], rfl, hp, R.cl, R.nT, (by show 0 < 1000; decide), ?_⟩
    refine ⟨_, rfl, _, rfl, _, _, rfl, rfl, dv _, _, rfl, p, C, dx, _, rfl, upd_same, R.cl, R.nB, (by show 1 < 1000; decide), ?_⟩
    rw [upd_upd]
    exact q
end
/-- Ratio(e), Ratio(e, e') -/
structure MkR (P : Program) (w : World) (K : PySem.W.Frag) (mg : Str → Option Value) (base : Heap) (C : Addr) : Prop where
  g : mg "Ratio" = some (.ref C)
  m : ∃ f fd ds, Mk K C f ∧ FnOk P w K mg base CX0 2 f fd ["self", "top", "bottom"] (spRI C) ∧ Binds K fd ["self", "top", "bottom"] [] ∧ Vals [V.int 1] ds ∧ Binds K fd ["self", "top", "bottom"] ds
/-- what is wanted of a new Ratio of s sixths -/
abbrev NewS (C : Addr) (H : Hp) (s : Int) (Q : VK) : Prop := ∀ (p : Addr) (H' : Hp), Same H H' → H p = none → Six C H' p s → Q (.ref p) H'
theorem mk_six {C : Addr} {H : Hp} {t b s : Int} {Q : VK} {E : XK} (b0 : b ≠ 0) (st : t.natAbs < 2 ^ 100) (sb : b.natAbs < 2 ^ 100) (e : rT t b = rT s 6 ∧ rB t b = rB s 6) (q : NewS C H s Q) :
    ∀ x dx, H x = none → H dx = none → dx ≠ x → spRI C [.ref x, .int t, .int b] (upd (upd H dx (.own x)) x (.ins C dx [])) (fun v H2 => v = .non ∧ Q (.ref x) H2) E := fun x dx hx hd ne =>
  ⟨x, dx, _, _, rfl, upd_same, b0, st, sb, rfl, by
    rw [upd_upd, e.1, e.2]
    exact q x _ (fun o u e => by rw [upd_ne (ne_of_none e hx), upd_ne (ne_of_none e hd)]; exact e) hx ⟨dx, upd_same⟩⟩
theorem mk_one {C : Addr} {H : Hp} {n : Int} {Q : VK} {E : XK} (st : n.natAbs < 2 ^ 100) (q : NewS C H (6 * n) Q) :
    ∀ x dx, H x = none → H dx = none → dx ≠ x → spRI C [.ref x, .int n, .int 1] (upd (upd H dx (.own x)) x (.ins C dx [])) (fun v H2 => v = .non ∧ Q (.ref x) H2) E :=
  mk_six (by decide) st (by decide) (by obtain ⟨a, b⟩ := red_one n; obtain ⟨c, d⟩ := six_int n; exact ⟨a.trans c.symm, b.trans d.symm⟩) q
theorem six_b {s : Int} (h : Sm s) : -(2 ^ 60) < rT s 6 ∧ rT s 6 < 2 ^ 60 ∧ 0 < rB s 6 ∧ rB s 6 ≤ 6 := by
  have := six_le s
  have := six_pos s
  refine ⟨?_, ?_, this, ?_⟩ <;> omega
theorem mul_b {x y : Int} (h : -(2 ^ 60) < x ∧ x < 2 ^ 60) (k : 0 < y ∧ y ≤ 6) : (x * y).natAbs < 2 ^ 64 := by
  rw [Int.natAbs_mul]
  have a : x.natAbs ≤ 2 ^ 60 := by omega
  have b : y.natAbs ≤ 6 := by omega
  have := Nat.mul_le_mul a b
  omega
def spRight (C : Addr) : Sp := fun vs H Q _ => ∃ v s, vs = [v] ∧ SixV C H v s ∧ Sm s ∧ ∀ p H', Same H H' → Six C H' p s → Q (.ref p) H'
def spSum (C : Addr) : Sp := fun vs H Q _ => ∃ a v s s2, vs = [.ref a, v] ∧ Six C H a s ∧ SixV C H v s2 ∧ Sm s ∧ Sm s2 ∧ NewS C H (s + s2) Q
def spNeg (C : Addr) : Sp := fun vs H Q _ => ∃ a s, vs = [.ref a] ∧ Six C H a s ∧ Sm s ∧ NewS C H (-s) Q
def spREq (C : Addr) : Sp := fun vs H Q _ => ∃ a b s s2, vs = [.ref a, .ref b] ∧ Six C H a s ∧ Six C H b s2 ∧ Q (.bl (decide (s = s2))) H
def spSign (C : Addr) : Sp := fun vs H Q _ => ∃ a s, vs = [.ref a] ∧ Six C H a s ∧ Q (.int (if s = 0 then 0 else if s > 0 then 1 else -1)) H
def spIsRatio (C : Addr) : Sp := fun vs H Q _ => ∃ v s, vs = [v] ∧ SixV C H v s ∧ Q (.bl true) H
def spAmount (C : Addr) : Sp := fun vs H Q _ => ∃ v s, vs = [v] ∧ SixV C H v s ∧ Sm s ∧ 0 ≤ s ∧ ∀ H', Same H H' → Q (.bl true) H'
section
variable {P : Program} {w : World} {K : PySem.W.Frag} {mg : Str → Option Value} {base : Heap} {f C : Addr} {fd : FuncData}
abbrev HasRight (P : Program) (w : World) (K : PySem.W.Frag) (mg : Str → Option Value) (base : Heap) (C : Addr) : Prop := Has P w K mg base CX0 4 "_right" ["other"] (spRight C)
abbrev HasIsR (P : Program) (w : World) (K : PySem.W.Frag) (mg : Str → Option Value) (base : Heap) (C : Addr) : Prop := Has P w K mg base CX0 2 "is_ratio" ["value"] (spIsRatio C)
theorem scRight : FnScope ["other"] ["other"] (defScope sRight) := ⟨rfl, rfl, rfl, by decide +kernel, rfl, by decide +kernel, by decide +kernel⟩
theorem ok_right (G : Glob mg) (R : RatF K C) (HI : HasInt P w K mg base) (MR : MkR P w K mg base C) (F : DefAt K "_right" "_right" sRight f fd) : FnOk P w K mg base CX0 4 f fd ["other"] (spRight C) := by
  obtain ⟨fi, fdi, mI, kI, bI, GI⟩ := HI.h
  obtain ⟨fm, fdm, ds, M, GM, _, hv, bM⟩ := MR.m
  refine okN F scRight (fun vs H Q E ⟨v, s, e, _⟩ => by rw [e]; rfl) (fun cdv A outer s H vs Q E hr ⟨v, n, e, h, sm, q⟩ => ?_)
  subst e
  refine ⟨_, pss_cons (ps_if (pt_val (pe_callB call_isi (by rfl) G.isi (by decide +kernel) (pa_cons (pv 0) (pa_cons (pe_glob (v := .ref C) rfl MR.g rfl) pa_nil)))) (pss_one (ps_ret (pv 0))) pss_nil)
    (pss_cons (ps_if (pt_not (pt_val (pe_call GI (hr.mono (by decide)) rfl mI kI bI .nil pass0 (pa_cons (pv 0) pa_nil)))) pss_dead pss_nil)
    (pss_one (ps_ret (pe_make M GM hr rfl MR.g bM hv pass0 (pa_cons (pv 0) pa_nil))))), ?_⟩
  rcases h with ⟨a, rfl, ha⟩ | ⟨n, rfl, rfl⟩
  · obtain ⟨dx, h1⟩ := id ha
    exact ⟨_, rfl, _, _, _, _, _, rfl, .own C, .base (R.ty h1), R.me, true, rfl, iteT ⟨_, rfl, q a H (Same.refl H) ha⟩⟩
  · refine ⟨_, rfl, _, _, _, _, _, rfl, .own C, .base (.int n), R.int, false, rfl, iteF ?_⟩
    refine ⟨_, rfl, _, rfl, .inr ⟨n, rfl, true, rfl, iteF ?_⟩⟩
    exact ⟨_, rfl, mk_one (by omega) fun p H' s _ hp => q p H' s hp⟩
theorem scAdd : FnScope ["self", "other", "right"] ["self", "other"] (defScope sRAdd) := ⟨rfl, rfl, rfl, by decide +kernel, rfl, by decide +kernel, by decide +kernel⟩
theorem ok_add (R : RatF K C) (HR : HasRight P w K mg base C) (MR : MkR P w K mg base C) (F : DefAt K "__add__" "Ratio.__add__" sRAdd f fd) : FnOk P w K mg base CX0 5 f fd ["self", "other"] (spSum C) := by
  obtain ⟨fr, fdr, mR, kR, bR, GR⟩ := HR.h
  obtain ⟨fm, fdm, ds, M, GM, bM, _, _⟩ := MR.m
  refine okN F scAdd (fun vs H Q E ⟨a, v, s, s2, e, _⟩ => by rw [e]; rfl) (fun cdv A outer s H vs Q E hr ⟨a, v, n, n2, e, ha, hv, sm, sm2, q⟩ => ?_)
  subst e
  refine ⟨_, pss_cons (ps_set (i := 2) scAdd.nd rfl (Or.inl rfl) (pe_call GR hr rfl mR kR bR .nil pass0 (pa_cons (pv 1) pa_nil)))
    (pss_one (ps_ret (pe_make M GM (hr.mono (by decide)) rfl MR.g bM .nil pass0 (pa_cons (pe_op op_add (pe_op op_mul (pe_fld (pv 0) rfl) (pe_fld (pv 2) rfl)) (pe_op op_mul (pe_fld (pv 2) rfl) (pe_fld (pv 0) rfl))) (pa_cons (pe_op op_mul (pe_fld (pv 0) rfl) (pe_fld (pv 2) rfl)) pa_nil))))), ?_⟩
  refine ⟨_, rfl, _, n2, rfl, hv, sm2, fun p H1 s1 hp => ?_⟩
  obtain ⟨dx, h1⟩ := ha.same s1
  obtain ⟨dy, h2⟩ := hp
  obtain ⟨x0, x1, x2, x3⟩ := six_b sm
  obtain ⟨y0, y1, y2, y3⟩ := six_b sm2
  have m1 := mul_b ⟨x0, x1⟩ ⟨y2, y3⟩
  have m2 := mul_b ⟨y0, y1⟩ ⟨x2, x3⟩
  have m3 := mul_b (x := rB n 6) (y := rB n2 6) ⟨by omega, by omega⟩ ⟨y2, y3⟩
  refine ⟨_, rfl, a, C, dx, _, _, rfl, h1, R.cl, R.nT, fsR_top _ _, _, rfl, p, C, dy, _, _, rfl, h2, R.cl, R.nB, fsR_bottom _ _, _, _, rfl, rfl, .inl ⟨by omega, by omega⟩, ?_⟩
  refine ⟨_, rfl, p, C, dy, _, _, rfl, h2, R.cl, R.nT, fsR_top _ _, _, rfl, a, C, dx, _, _, rfl, h1, R.cl, R.nB, fsR_bottom _ _, _, _, rfl, rfl, .inl ⟨by omega, by omega⟩, _, _, rfl, rfl, ?_⟩
  refine ⟨_, rfl, a, C, dx, _, _, rfl, h1, R.cl, R.nB, fsR_bottom _ _, _, rfl, p, C, dy, _, _, rfl, h2, R.cl, R.nB, fsR_bottom _ _, _, _, rfl, rfl, .inl ⟨by omega, by omega⟩, ?_⟩
  refine mk_six (Int.mul_ne_zero (by omega) (by omega)) (by omega) (by omega) (six_add n n2) fun p' H' s' np h' => q p' H' (s1.trans s') (s1.free np) h'
theorem scNeg : FnScope ["self"] ["self"] (defScope sRNeg) := ⟨rfl, rfl, rfl, by decide +kernel, rfl, by decide +kernel, by decide +kernel⟩
theorem ok_neg (R : RatF K C) (MR : MkR P w K mg base C) (F : DefAt K "__neg__" "Ratio.__neg__" sRNeg f fd) : FnOk P w K mg base CX0 4 f fd ["self"] (spNeg C) := by
  obtain ⟨fm, fdm, ds, M, GM, bM, _, _⟩ := MR.m
  refine okN F scNeg (fun vs H Q E ⟨a, s, e, _⟩ => by rw [e]; rfl) (fun cdv A outer s H vs Q E hr ⟨a, n, e, ha, sm, q⟩ => ?_)
  subst e
  refine ⟨_, pss_one (ps_ret (pe_make M GM hr rfl MR.g bM .nil pass0 (pa_cons (pe_un un_neg (pe_fld (pv 0) rfl)) (pa_cons (pe_fld (pv 0) rfl) pa_nil)))), ?_⟩
  obtain ⟨dx, h1⟩ := ha
  obtain ⟨x0, x1, x2, x3⟩ := six_b sm
  refine ⟨_, rfl, a, C, dx, _, _, rfl, h1, R.cl, R.nT, fsR_top _ _, _, rfl, _, rfl, a, C, dx, _, _, rfl, h1, R.cl, R.nB, fsR_bottom _ _, ?_⟩
  exact mk_six (by omega) (by omega) (by omega) (six_neg n) q
theorem scREq : FnScope ["self", "other"] ["self", "other"] (defScope sREq) := ⟨rfl, rfl, rfl, by decide +kernel, rfl, by decide +kernel, by decide +kernel⟩
theorem ok_req (G : Glob mg) (R : RatF K C) (gR : mg "Ratio" = some (.ref C)) (F : DefAt K "__eq__" "Ratio.__eq__" sREq f fd) : FnOk P w K mg base CX0 1 f fd ["self", "other"] (spREq C) := by
  refine okN F scREq (fun vs H Q E ⟨a, b, s, s2, e, _⟩ => by rw [e]; rfl) (fun cdv A outer s H vs Q E hr ⟨a, b, n, n2, e, ha, hb, q⟩ => ?_)
  subst e
  obtain ⟨dx, h1⟩ := ha
  obtain ⟨dy, h2⟩ := hb
  refine ⟨_, pss_cons (ps_if (pt_val (pe_callB call_isi (by rfl) G.isi (by decide +kernel) (pa_cons (pv 1) (pa_cons (pe_glob (v := .ref C) rfl gR rfl) pa_nil))))
      (pss_one (ps_ret (pe_and (pe_cmpR op_eq (pe_fld (pv 0) rfl) (pe_fld (pv 1) rfl) (nomark _)) (pe_one (pe_cmpR op_eq (pe_fld (pv 0) rfl) (pe_fld (pv 1) rfl) (nomark _)))))) pss_nil)
    (pss_one (ps_ret pe_dead)), ?_⟩
  refine ⟨_, rfl, _, _, _, _, _, rfl, .own C, .base (R.ty h2), R.me, true, rfl, iteT ?_⟩
  refine ⟨_, rfl, a, C, dx, _, _, rfl, h1, R.cl, R.nT, fsR_top _ _, _, rfl, b, C, dy, _, _, rfl, h2, R.cl, R.nT, fsR_top _ _, rfl, _, rfl, ?_⟩
  rw [decI]
  have i := six_inj n n2
  by_cases e : rT n 6 = rT n2 6
  · rw [decide_eq_true e]
    refine iteT ⟨_, rfl, a, C, dx, _, _, rfl, h1, R.cl, R.nB, fsR_bottom _ _, _, rfl, b, C, dy, _, _, rfl, h2, R.cl, R.nB, fsR_bottom _ _, rfl, ?_⟩
    rw [decI, decide_eq_decide.mpr (show rB n 6 = rB n2 6 ↔ n = n2 from ⟨fun z => i.mp ⟨e, z⟩, fun z => (i.mpr z).2⟩)]
    exact q
  · rw [decide_eq_false e]
    rw [decide_eq_false (show ¬ n = n2 from fun z => e (i.mpr z).1)] at q
    exact iteF q
theorem scSign : FnScope ["self"] ["self"] (defScope sRSign) := ⟨rfl, rfl, rfl, by decide +kernel, rfl, by decide +kernel, by decide +kernel⟩
theorem ok_sign (R : RatF K C) (F : DefAt K "sign" "Ratio.sign" sRSign f fd) : FnOk P w K mg base CX0 1 f fd ["self"] (spSign C) := by
  refine okN F scSign (fun vs H Q E ⟨a, s, e, _⟩ => by rw [e]; rfl) (fun cdv A outer s H vs Q E hr ⟨a, n, e, ha, q⟩ => ?_)
  subst e
  obtain ⟨dx, h1⟩ := ha
  refine ⟨_, pss_cons (ps_if (pt_cmpR op_eq (pe_fld (pv 0) rfl) pe_int (nomark _)) (pss_one (ps_ret pe_int)) pss_nil)
    (pss_one (ps_ret (pe_ifExp (pt_cmpR op_gt (pe_fld (pv 0) rfl) pe_int (nomark _)) pe_int (pe_un un_neg pe_int)))), ?_⟩
  refine ⟨_, rfl, a, C, dx, _, _, rfl, h1, R.cl, R.nT, fsR_top _ _, rfl, _, rfl, ?_⟩
  obtain ⟨z1, z2⟩ := six_sign n
  by_cases e : rT n 6 = 0
  · rw [decI, decide_eq_true e]
    rw [if_pos (z1.mp e)] at q
    exact iteT q
  · rw [decI, decide_eq_false e]
    rw [if_neg fun z => e (z1.mpr z)] at q
    refine iteF ⟨_, rfl, a, C, dx, _, _, rfl, h1, R.cl, R.nT, fsR_top _ _, _, _, rfl, rfl, decide (0 < rT n 6), rfl, ?_⟩
    by_cases l : rT n 6 > 0
    · rw [decide_eq_true l]
      rw [if_pos (z2.mp l)] at q
      exact iteT q
    · rw [decide_eq_false l]
      rw [if_neg fun z => l (z2.mpr z)] at q
      exact iteF ⟨_, rfl, q⟩
theorem scIsR : FnScope ["value"] ["value"] (defScope sIsRatio) := ⟨rfl, rfl, rfl, by decide +kernel, rfl, by decide +kernel, by decide +kernel⟩
theorem ok_isR (G : Glob mg) (R : RatF K C) (HI : HasInt P w K mg base) (gR : mg "Ratio" = some (.ref C)) (F : DefAt K "is_ratio" "is_ratio" sIsRatio f fd) : FnOk P w K mg base CX0 2 f fd ["value"] (spIsRatio C) := by
  obtain ⟨fi, fdi, mI, kI, bI, GI⟩ := HI.h
  refine okN F scIsR (fun vs H Q E ⟨v, s, e, _⟩ => by rw [e]; rfl) (fun cdv A outer s H vs Q E hr ⟨v, n, e, h, q⟩ => ?_)
  subst e
  refine ⟨_, pss_one (ps_ret (pe_or (pe_callB call_isi (by rfl) G.isi (by decide +kernel) (pa_cons (pv 0) (pa_cons (pe_glob (v := .ref C) rfl gR rfl) pa_nil)))
    (pe_one (pe_call GI hr rfl mI kI bI .nil pass0 (pa_cons (pv 0) pa_nil))))), ?_⟩
  rcases h with ⟨a, rfl, dx, ha⟩ | ⟨n, rfl, rfl⟩
  · exact ⟨_, rfl, _, _, _, _, _, rfl, .own C, .base (R.ty ha), R.me, true, rfl, iteT q⟩
  · exact ⟨_, rfl, _, _, _, _, _, rfl, .own C, .base (.int n), R.int, false, rfl, iteF ⟨_, rfl, _, rfl, .inr ⟨n, rfl, q⟩⟩⟩
theorem scOf : FnScope ["value"] ["value"] (defScope sROf) := ⟨rfl, rfl, rfl, by decide +kernel, rfl, by decide +kernel, by decide +kernel⟩
theorem ok_of (HR : HasRight P w K mg base C) (HQ : HasIsR P w K mg base C) (F : DefAt K "of" "Ratio.of" sROf f fd) : FnOk P w K mg base CX0 5 f fd ["value"] (spRight C) := by
  obtain ⟨fr, fdr, mR, kR, bR, GR⟩ := HR.h
  obtain ⟨fq, fdq, mQ, kQ, bQ, GQ⟩ := HQ.h
  refine okN F scOf (fun vs H Q E ⟨v, s, e, _⟩ => by rw [e]; rfl) (fun cdv A outer s H vs Q E hr ⟨v, n, e, h, sm, q⟩ => ?_)
  subst e
  refine ⟨_, pss_cons (ps_if (pt_not (pt_val (pe_call GQ (hr.mono (by decide)) rfl mQ kQ bQ .nil pass0 (pa_cons (pv 0) pa_nil)))) pss_dead pss_nil)
    (pss_one (ps_ret (pe_call GR hr rfl mR kR bR .nil pass0 (pa_cons (pv 0) pa_nil)))), ?_⟩
  exact ⟨_, rfl, v, n, rfl, h, true, rfl, iteF ⟨_, rfl, v, n, rfl, h, sm, q⟩⟩
/-- Ratio.of, x.sign -/
structure RatM (P : Program) (w : World) (K : PySem.W.Frag) (mg : Str → Option Value) (base : Heap) (C : Addr) : Prop where
  g : mg "Ratio" = some (.ref C)
  r : ClX.CRead K C (.type "type")
  of : ∃ f fd, SMet K C "of" f ∧ Binds K fd ["value"] [] ∧ FnOk P w K mg base CX0 5 f fd ["value"] (spRight C)
  sign : ∃ p f fd, PropOf K C "sign" p f ∧ Binds K fd ["self"] [] ∧ FnOk P w K mg base CX0 1 f fd ["self"] (spSign C)
theorem scAmount : FnScope ["value"] ["value"] (defScope sIsAmount) := ⟨rfl, rfl, rfl, by decide +kernel, rfl, by decide +kernel, by decide +kernel⟩
theorem ok_amount (R : RatF K C) (HQ : HasIsR P w K mg base C) (RM : RatM P w K mg base C) (F : DefAt K "is_amount" "is_amount" sIsAmount f fd) : FnOk P w K mg base CX0 6 f fd ["value"] (spAmount C) := by
  obtain ⟨fq, fdq, mQ, kQ, bQ, GQ⟩ := HQ.h
  obtain ⟨fo, fdo, MO, bO, GO⟩ := RM.of
  obtain ⟨ps, fs, fds, PS_, bS, GS⟩ := RM.sign
  refine okN F scAmount (fun vs H Q E ⟨v, s, e, _⟩ => by rw [e]; rfl) (fun cdv A outer s H vs Q E hr ⟨v, n, e, h, sm, n0, q⟩ => ?_)
  subst e
  refine ⟨_, pss_one (ps_ret (pe_and (pe_call GQ (hr.mono (by decide)) rfl mQ kQ bQ .nil pass0 (pa_cons (pv 0) pa_nil))
    (pe_one (pe_cmpR op_ge (pe_prop (pe_smeth (pe_glob (v := .ref C) rfl RM.g rfl) RM.r MO GO hr bO pass0 (pa_cons (pv 0) pa_nil)) R.cl PS_ GS (hr.mono (by decide)) bS .nil pass0 rfl) pe_int (nomark _))))), ?_⟩
  refine ⟨_, rfl, v, n, rfl, h, true, rfl, iteT ?_⟩
  refine ⟨rfl, _, rfl, v, n, rfl, h, sm, fun p H' s' hp => ?_⟩
  obtain ⟨dx, h1⟩ := id hp
  refine ⟨p, dx, _, rfl, h1, p, n, rfl, hp, _, _, rfl, rfl, ?_⟩
  show Q (.bl (decide ((0 : Int) ≤ if n = 0 then 0 else if n > 0 then 1 else -1))) H'
  rw [decide_eq_true (show (0 : Int) ≤ if n = 0 then 0 else if n > 0 then 1 else -1 by split <;> (try split) <;> omega)]
  exact q H' s'
end
end K5

/-! k05: is_name, are_names, check_none_twice of texts, _are_ratios, added. -/
namespace K5
open PySem PySem.Spec PyProof.Rows L2 LamX K1 K18

/-! two lists, item by item -/
def All2 {α β : Type} (R : α → β → Prop) (xs : List α) (ys : List β) : Prop := xs.length = ys.length ∧ ∀ (i : Nat) (x : α) (y : β), xs[i]? = some x → ys[i]? = some y → R x y
section
variable {α β : Type} {R R' : α → β → Prop} {xs : List α} {ys : List β}
theorem All2.nil : All2 R [] [] := ⟨rfl, fun i x y e => by simp at e⟩
theorem All2.mono (h : All2 R xs ys) (k : ∀ x y, R x y → R' x y) : All2 R' xs ys := ⟨h.1, fun i x y a b => k x y (h.2 i x y a b)⟩
theorem All2.snoc {x : α} {y : β} (h : All2 R xs ys) (r : R x y) : All2 R (xs ++ [x]) (ys ++ [y]) := by
  refine ⟨by simp [h.1], fun i a b ea eb => ?_⟩
  by_cases hi : i < xs.length
  · rw [List.getElem?_append_left hi] at ea
    rw [List.getElem?_append_left (by rw [← h.1]; exact hi)] at eb
    exact h.2 i a b ea eb
  · rw [List.getElem?_append_right (by omega)] at ea
    rw [List.getElem?_append_right (by rw [← h.1]; omega), ← h.1] at eb
    cases q : i - xs.length with
    | zero =>
      rw [q] at ea eb
      cases ea; cases eb
      exact r
    | succ n => rw [q] at ea; simp at ea
theorem All2.get (h : All2 R xs ys) {i : Nat} {x : α} (e : xs[i]? = some x) : ∃ y, ys[i]? = some y ∧ R x y := by
  have hi := (List.getElem?_eq_some_iff.mp e).1
  have hj : i < ys.length := by rw [← h.1]; exact hi
  exact ⟨ys[i], List.getElem?_eq_getElem hj, h.2 i x _ e (List.getElem?_eq_getElem hj)⟩
theorem All2.getR (h : All2 R xs ys) {i : Nat} {y : β} (e : ys[i]? = some y) : ∃ x, xs[i]? = some x ∧ R x y := by
  have hi := (List.getElem?_eq_some_iff.mp e).1
  have hj : i < xs.length := by rw [h.1]; exact hi
  exact ⟨xs[i], List.getElem?_eq_getElem hj, h.2 i _ y (List.getElem?_eq_getElem hj) e⟩
theorem All2.app {xs' : List α} {ys' : List β} (h : All2 R xs ys) (h' : All2 R xs' ys') : All2 R (xs ++ xs') (ys ++ ys') := by
  refine ⟨by simp [h.1, h'.1], fun i a b ea eb => ?_⟩
  by_cases hi : i < xs.length
  · rw [List.getElem?_append_left hi] at ea
    rw [List.getElem?_append_left (by rw [← h.1]; exact hi)] at eb
    exact h.2 i a b ea eb
  · rw [List.getElem?_append_right (by omega)] at ea
    rw [List.getElem?_append_right (by rw [← h.1]; omega), ← h.1] at eb
    exact h'.2 _ a b ea eb
end
theorem take_more {α : Type} {l : List α} {i : Nat} {x : α} (h : l[i]? = some x) : l.take (i + 1) = l.take i ++ [x] := by
  obtain ⟨hi, e⟩ := List.getElem?_eq_some_iff.mp h
  rw [List.take_succ_eq_append_getElem hi, e]
theorem map_at {α β : Type} {f : α → β} {l : List α} {i : Nat} {x : β} (h : (l.map f)[i]? = some x) : ∃ a, l[i]? = some a ∧ x = f a := by
  rw [List.getElem?_map] at h
  cases e : l[i]? with
  | none => rw [e] at h; cases h
  | some a => rw [e] at h; cases h; exact ⟨a, rfl, rfl⟩
theorem same_upd {H H2 : Hp} {D : Addr} {o : HO} (hD : H D = none) (s : Same H H2) : Same H (upd H2 D o) := fun a u e => by rw [upd_ne (ne_of_none e hD)]; exact s a u e

/-! ### names -/
def isL (c : Nat) : Bool := decide (97 ≤ c ∧ c ≤ 122)
def isD (c : Nat) : Bool := decide (48 ≤ c ∧ c ≤ 57)
theorem in_let (c : Nat) : decide (c ∈ (Str.ofString "abcdefghijklmnopqrstuvwxyz").cps.toList) = isL c := by
  have e : (Str.ofString "abcdefghijklmnopqrstuvwxyz").cps.toList = [97, 98, 99, 100, 101, 102, 103, 104, 105, 106, 107, 108, 109, 110, 111, 112, 113, 114, 115, 116, 117, 118, 119, 120, 121, 122] := by decide +kernel
  unfold isL
  rw [e]
  refine decide_eq_decide.mpr ?_
  simp only [List.mem_cons, List.not_mem_nil, or_false]
  omega
theorem in_dig (c : Nat) : decide (c ∈ (Str.ofString "0123456789").cps.toList) = isD c := by
  have e : (Str.ofString "0123456789").cps.toList = [48, 49, 50, 51, 52, 53, 54, 55, 56, 57] := by decide +kernel
  unfold isD
  rw [e]
  refine decide_eq_decide.mpr ?_
  simp only [List.mem_cons, List.not_mem_nil, or_false]
  omega
/-- a name -/
structure Nm (x : Str) : Prop where
  l1 : 1 ≤ x.length
  l2 : x.length ≤ 12
  hd : ∃ c, x.cps.toList[0]? = some c ∧ isL c = true
  al : ∀ c ∈ x.cps.toList, isL c = true ∨ isD c = true
structure Consts (mg : Str → Option Value) : Prop where
  dig : ∃ u, mg "DIGITS" = some u ∧ RelV (.str (Str.ofString "0123456789")) u
  let_ : ∃ u, mg "LETTERS" = some u ∧ RelV (.str (Str.ofString "abcdefghijklmnopqrstuvwxyz")) u
  s12 : ∃ u, mg "MOST_SIGNS" = some u ∧ RelV (.int 12) u
def spName : Sp := fun vs H Q _ => ∃ x, vs = [.str x] ∧ Nm x ∧ ∀ H', Same H H' → Q (.bl true) H'
def spNames : Sp := fun vs H Q _ => ∃ (a : Addr) (ns : List Str), vs = [.ref a] ∧ SqA H a (ns.map V.str) ∧ (∀ n ∈ ns, Nm n) ∧ ns.length ≤ 1000 ∧ ∀ H', Same H H' → Q (.bl true) H'
def spTwiceS : Sp := fun vs H Q _ => ∃ (a : Addr) (ns : List Str), vs = [.ref a] ∧ SqA H a (ns.map V.str) ∧ ns.length ≤ 1000 ∧ ns.Nodup ∧ ∀ H', Same H H' → Q .non H'
/-- a list of Ratios -/
structure SixL (C : Addr) (H : Hp) (a : Addr) (ss : List Int) : Prop where
  ex : ∃ as, H a = some (.lst (as.map V.ref)) ∧ All2 (Six C H) as ss
theorem SixL.same {C : Addr} {H H' : Hp} {a : Addr} {ss : List Int} (e : Same H H') (h : SixL C H a ss) : SixL C H' a ss := let ⟨as, x, y⟩ := h; ⟨as, e _ _ x, y.mono fun _ _ z => z.same e⟩
def spAre (C : Addr) : Sp := fun vs H Q _ => ∃ a ss, vs = [.ref a] ∧ SixL C H a ss ∧ ss.length ≤ 1000 ∧ ∀ H', Same H H' → Q (.bl true) H'
/-- few, none too great -/
structure Few (ss : List Int) : Prop where
  len : ss.length ≤ 100
  sm : ∀ s ∈ ss, s.natAbs < 2 ^ 50
def spAdded (C : Addr) : Sp := fun vs H Q _ => ∃ a ss, vs = [.ref a] ∧ SixL C H a ss ∧ Few ss ∧ ∀ p H', Same H H' → H p = none → Six C H' p ss.sum → Q (.ref p) H'
theorem few_sum {ss : List Int} (h : Few ss) (i : Nat) : Sm (ss.take i).sum := by
  have key : ∀ l : List Int, (∀ s ∈ l, s.natAbs < 2 ^ 50) → l.sum.natAbs ≤ l.length * 2 ^ 50 := by
    intro l
    induction l with
    | nil => intro _; simp
    | cons a r ih =>
      intro k
      have h1 := ih fun s hs => k s (List.mem_cons_of_mem _ hs)
      have h2 := k a (List.mem_cons_self ..)
      rw [List.sum_cons, List.length_cons]
      omega
  have z := key (ss.take i) fun s hs => h.sm s (List.mem_of_mem_take hs)
  have l : (ss.take i).length ≤ 100 := by rw [List.length_take]; have := h.len; omega
  show (ss.take i).sum.natAbs < 2 ^ 60
  omega
abbrev HasName (P : Program) (w : World) (K : PySem.W.Frag) (mg : Str → Option Value) (base : Heap) : Prop := Has P w K mg base CX0 1 "is_name" ["value"] spName
abbrev HasNames (P : Program) (w : World) (K : PySem.W.Frag) (mg : Str → Option Value) (base : Heap) : Prop := Has P w K mg base CX0 2 "are_names" ["value"] spNames
abbrev HasTwiceS (P : Program) (w : World) (K : PySem.W.Frag) (mg : Str → Option Value) (base : Heap) : Prop := Has P w K mg base CX0 1 "check_none_twice" ["items"] spTwiceS
abbrev HasAre (P : Program) (w : World) (K : PySem.W.Frag) (mg : Str → Option Value) (base : Heap) (C : Addr) : Prop := Has P w K mg base CX0 3 "_are_ratios" ["value"] (spAre C)
abbrev HasAdded (P : Program) (w : World) (K : PySem.W.Frag) (mg : Str → Option Value) (base : Heap) (C : Addr) : Prop := Has P w K mg base CX0 6 "added" ["ratios"] (spAdded C)
theorem all_true (n : Nat) : (List.replicate n true).all id = true := by induction n <;> simp_all [List.replicate]
theorem rep_snoc (n : Nat) (D : Addr) (H : Hp) : upd H D (.lst (List.replicate n (V.bl true) ++ [V.bl true])) = upd H D (.lst (List.replicate (n + 1) (V.bl true))) := by rw [List.replicate_succ']
section
variable {P : Program} {w : World} {K : PySem.W.Frag} {mg : Str → Option Value} {base : Heap} {f C : Addr} {fd : FuncData}
theorem scName : FnScope ["value", "sign"] ["value"] (defScope sName) := ⟨rfl, rfl, rfl, by decide +kernel, rfl, by decide +kernel, by decide +kernel⟩
theorem ok_name (G : Glob mg) (CO : Consts mg) (F : DefAt K "is_name" "is_name" sName f fd) : FnOk P w K mg base CX0 1 f fd ["value"] spName := by
  obtain ⟨ud, gd, rd⟩ := CO.dig
  obtain ⟨ul, gl, rl⟩ := CO.let_
  obtain ⟨u6, g6, r6⟩ := CO.s12
  refine okN F scName (fun vs H Q E ⟨v, e, _⟩ => by rw [e]; rfl) (fun cdv A outer s H vs Q E hr ⟨x, e, n, q⟩ => ?_)
  subst e
  refine ⟨_, pss_cons (ps_if (PW.pt (pw_or (pt_not (pt_val (pe_callB call_isi (by rfl) G.isi (by decide +kernel) (pa_cons (pv 0) (pa_cons (pe_bltn (by rfl) G.str (by decide +kernel) (v := .ty "str") rfl) pa_nil)))))
      (pw_or1 (pt_not (pt_chain op_le op_le pe_int (pe_callB call_len_str (by rfl) G.len PySem.boot_len (pa_cons (pv 0) pa_nil)) (pe_glob (v := .int 12) rfl g6 r6)))))) pss_dead pss_nil)
    (pss_one (ps_ret (pe_and (pe_cmpR op_in_sign (pe_ix ix_str (pv 0) pe_int (fun _ _ => rfl)) (pe_glob (v := .str (Str.ofString "abcdefghijklmnopqrstuvwxyz")) rfl gl rl) rfl)
      (pe_one (pe_callB (cr_all rfl) (by rfl) G.all (by decide +kernel) (pa_cons
          (pe_lc (own := [("sign", 1)]) (g := gName 1) (tt := tYes) rfl scName.nd (pi_str (pv 0)) (blkOk_by (N := ["value", "sign"]) (sc := defScope sName) (by decide +kernel))
            (fun _ _ _ _ _ => pg_name (i := 1) scName.nd rfl (Or.inl rfl)) (fun _ _ _ _ _ => pts_nil) (fun _ _ _ _ _ => pe_or (pe_cmpR op_in_sign (pv 1) (pe_glob (v := .str (Str.ofString "abcdefghijklmnopqrstuvwxyz")) rfl gl rl) rfl) (pe_one (pe_cmpR op_in_sign (pv 1) (pe_glob (v := .str (Str.ofString "0123456789")) rfl gd rd) rfl)))) pa_nil)))))), ?_⟩
  have sz : sizeLine = 16777216 := sizeLine_eq
  have l1 := n.l1
  have l2 := n.l2
  refine ⟨_, rfl, _, _, _, _, _, rfl, .ty "str", .base (.str x), kit_ty (a := "str") (b := "str") (r := true) (by decide +kernel), true, rfl, iteF ?_⟩
  refine ⟨_, rfl, _, rfl, (by omega), _, _, rfl, rfl, true, congrArg V.bl (decide_eq_true (show (1 : Int) ≤ (x.length : Int) by omega)), iteT ⟨_, _, rfl, rfl, true, congrArg V.bl (decide_eq_true (show (x.length : Int) ≤ 12 by omega)), iteF ?_⟩⟩
  obtain ⟨c, hc, lc⟩ := n.hd
  refine ⟨_, rfl, _, 0, c, rfl, rfl, (by omega), atI_nat (j := 0) hc, c, _, rfl, rfl, true, congrArg V.bl (by rw [in_let, lc]), iteT ?_⟩
  refine ⟨_, rfl, _, rfl, fun D hD => ?_⟩
  refine lc_it walk_str (fun i H2 => Same H H2 ∧ H2 D = some (.lst (List.replicate i (V.bl true)))) ⟨upd_new hD, upd_same⟩ (fun _ _ _ _ => trivial) ?_ ?_
  · rintro i y H2 H3 hi ⟨s2, h2⟩ ⟨rfl, d, hd, rfl⟩
    have md : d ∈ x.cps.toList := List.mem_of_getElem? (i := i) (by simpa using hd)
    have li : i < x.length := hi
    have fin : ∃ acc, H3 D = some (.lst acc) ∧ acc.length < sizeLine ∧ (Same H (upd H3 D (.lst (acc ++ [V.bl true]))) ∧ upd H3 D (.lst (acc ++ [V.bl true])) D = some (.lst (List.replicate (i + 1) (V.bl true)))) :=
      ⟨_, h2, by rw [List.length_replicate]; omega, same_upd hD s2, by rw [rep_snoc, upd_same]⟩
    refine ⟨rfl, yes_of ⟨_, rfl, d, _, rfl, rfl, isL d, congrArg V.bl (in_let d), ?_⟩⟩
    cases e : isL d with
    | true => exact iteT fin
    | false =>
      refine iteF ⟨_, rfl, d, _, rfl, rfl, ?_⟩
      rw [in_dig, (n.al d md).resolve_left (by rw [e]; exact Bool.false_ne_true)]
      exact fin
  · rintro H2 ⟨s2, h2⟩
    refine ⟨D, List.replicate _ true, rfl, SqL.of (by rw [h2, List.map_replicate]), ?_⟩
    rw [all_true]
    exact q H2 s2
theorem scNames : FnScope ["value", "item"] ["value"] (defScope sAreNames) := ⟨rfl, rfl, rfl, by decide +kernel, rfl, by decide +kernel, by decide +kernel⟩
theorem ok_names (G : Glob mg) (HN : HasName P w K mg base) (HL : HasListed P w K mg base) (F : DefAt K "are_names" "are_names" sAreNames f fd) : FnOk P w K mg base CX0 2 f fd ["value"] spNames := by
  obtain ⟨fi, fdi, mI, kI, bI, GI⟩ := HN.h
  obtain ⟨fl, fdl, mL, kL, bL, GL⟩ := HL.h
  refine okN F scNames (fun vs H Q E ⟨a, ns, e, _⟩ => by rw [e]; rfl) (fun cdv A outer s H vs Q E hr ⟨a, ns, e, sq, al, hl, q⟩ => ?_)
  subst e
  refine ⟨_, pss_one (ps_ret (pe_and (pe_call GL hr rfl mL kL bL .nil pass0 (pa_cons (pv 0) pa_nil))
        (pe_one (pe_callB (cr_all rfl) (by rfl) G.all (by decide +kernel) (pa_cons
          (pe_lc (own := [("item", 1)]) (g := gName 1) (tt := tYes) rfl scNames.nd (pi_seq (pv 0)) (blkOk_by (N := ["value", "item"]) (sc := defScope sAreNames) (by decide +kernel))
            (fun _ _ _ _ _ => pg_name (i := 1) scNames.nd rfl (Or.inl rfl)) (fun _ _ _ _ _ => pts_nil) (fun _ _ _ _ _ => pe_call GI hr rfl mI kI bI .nil pass0 (pa_cons (pv 1) pa_nil))) pa_nil))))), ?_⟩
  have sz : sizeLine = 16777216 := sizeLine_eq
  refine ⟨_, rfl, _, rfl, .inr ⟨a, _, rfl, sq, fun H1 s1 => ⟨true, rfl, iteT ?_⟩⟩⟩
  refine ⟨_, rfl, a, rfl, ?_⟩
  refine lc_seqA (sq.same s1) fun D hD => ⟨fun i H2 => Same H1 H2 ∧ H2 D = some (.lst (List.replicate i (V.bl true))), ⟨upd_new hD, upd_same⟩, fun i H2 _ z => ?_, ?_, ?_⟩
  · obtain ⟨o, e⟩ := (sq.same s1).there
    rw [e, z.1 _ _ e]
  · rintro i x H2 hx ⟨s2, h2⟩
    obtain ⟨n, hn, rfl⟩ := map_at hx
    have li := (List.getElem?_eq_some_iff.mp hn).1
    refine ⟨rfl, yes_of ⟨_, rfl, n, rfl, al n (List.mem_of_getElem? hn), fun H3 s3 => ?_⟩⟩
    exact ⟨_, s3 _ _ h2, by rw [List.length_replicate]; omega, same_upd hD (s2.trans s3), by rw [rep_snoc, upd_same]⟩
  · rintro H2 ⟨s2, h2⟩
    refine ⟨D, List.replicate _ true, rfl, SqL.of (by rw [h2, List.map_replicate]), ?_⟩
    rw [all_true]
    exact q H2 (s1.trans s2)
theorem ok_twiceS (F : DefAt K "check_none_twice" "check_none_twice" sNoneTwice f fd) : FnOk P w K mg base CX0 1 f fd ["items"] spTwiceS := by
  refine okN F scTwice (fun vs H Q E ⟨a, ns, e, _⟩ => by rw [e]; rfl) (fun cdv A outer s H vs Q E hr ⟨a, ns, e, sq, hl, nd, q⟩ => ?_)
  subst e
  have hu := hu_of hr
  refine ⟨_, pss_cons (ps_set (i := 1) scTwice.nd rfl (Or.inl rfl) pe_dnewK) (pss_one (ps_for PassesOwn.never rfl (pi_seq (pv 0)) (pg_name (i := 2) scTwice.nd rfl (Or.inl rfl))
    (pss_cons (ps_if (pt_cmp (pc_din hu (pv 2) (pv 1))) pss_dead pss_nil)
    (pss_one (ps_dput hu (pv 1) (pv 2) pe_bl rfl))))), ?_⟩
  have sz : sizeLine = 16777216 := sizeLine_eq
  intro M hM
  have sM := upd_new (o := .dK []) hM
  have aM : a ≠ M := sq.ne hM
  refine ⟨_, rfl, a, rfl, ?_⟩
  refine for_seqA (sq.same sM) (fun i σ H2 => ∃ (kvs : List (Key × V)) (z : Option V), σ = [some (.ref a), some (.ref M), z] ∧ H2 = upd H M (.dK kvs) ∧ kvs.length ≤ i ∧ ∀ n : Str, valV kvs (Sum.inr n) = if n ∈ ns.take i then some (.bl true) else none)
    ⟨[], none, rfl, rfl, Nat.zero_le _, fun n => by simp [valV_nil]⟩ ?_ ?_ ?_
  · rintro i σ' H' _ ⟨kvs, z, _, rfl, _⟩
    rw [upd_ne aM, upd_ne aM]
  · rintro i x σ H2 hx ⟨kvs, z, rfl, rfl, lk, val⟩
    obtain ⟨n, hn, rfl⟩ := map_at hx
    have hi := (List.getElem?_eq_some_iff.mp hn).1
    refine ⟨_, rfl, _, rfl, M, _, rfl, DGet.k (k := Sum.inr n) upd_same, _, rfl, ?_⟩
    have hm : n ∉ ns.take i := fun m => by
      have z : (ns.take (i + 1)).Nodup := nd.sublist (List.take_sublist _ _)
      rw [take_more hn] at z
      exact (List.nodup_append.mp z).2.2 n m n (by simp) rfl
    rw [val n, if_neg hm]
    refine iteF ⟨_, rfl, _, rfl, M, _, rfl, DPut.k (k := Sum.inr n) upd_same (by omega), ?_⟩
    refine ⟨putK kvs (Sum.inr n) (.bl true), _, rfl, by rw [upd_upd], Nat.le_trans putK_len (by omega), fun j => ?_⟩
    rw [valV_put, val j, take_more hn]
    by_cases e : j = n
    · subst e; simp
    · simp [e]
  · rintro σ H2 ⟨kvs, z, rfl, rfl, lk, val⟩
    exact q _ (upd_new hM)
theorem scAre : FnScope ["value", "item"] ["value"] (defScope sAreRatios) := ⟨rfl, rfl, rfl, by decide +kernel, rfl, by decide +kernel, by decide +kernel⟩
theorem ok_are (G : Glob mg) (HL : HasListed P w K mg base) (HQ : HasIsR P w K mg base C) (F : DefAt K "_are_ratios" "_are_ratios" sAreRatios f fd) : FnOk P w K mg base CX0 3 f fd ["value"] (spAre C) := by
  obtain ⟨fq, fdq, mQ, kQ, bQ, GQ⟩ := HQ.h
  obtain ⟨fl, fdl, mL, kL, bL, GL⟩ := HL.h
  refine okN F scAre (fun vs H Q E ⟨a, ss, e, _⟩ => by rw [e]; rfl) (fun cdv A outer s H vs Q E hr ⟨a, ss, e, ⟨as, ha, al⟩, hl, q⟩ => ?_)
  subst e
  refine ⟨_, pss_one (ps_ret (pe_and (pe_call GL (hr.mono (by decide)) rfl mL kL bL .nil pass0 (pa_cons (pv 0) pa_nil))
        (pe_one (pe_callB (cr_all rfl) (by rfl) G.all (by decide +kernel) (pa_cons
          (pe_lc (own := [("item", 1)]) (g := gName 1) (tt := tYes) rfl scAre.nd (pi_seq (pv 0)) (blkOk_by (N := ["value", "item"]) (sc := defScope sAreRatios) (by decide +kernel))
            (fun _ _ _ _ _ => pg_name (i := 1) scAre.nd rfl (Or.inl rfl)) (fun _ _ _ _ _ => pts_nil) (fun _ _ _ _ _ => pe_call GQ hr rfl mQ kQ bQ .nil pass0 (pa_cons (pv 1) pa_nil))) pa_nil))))), ?_⟩
  have sz : sizeLine = 16777216 := sizeLine_eq
  have sq : SqA H a (as.map V.ref) := .inl ha
  refine ⟨_, rfl, _, rfl, .inr ⟨a, _, rfl, sq, fun H1 s1 => ⟨true, rfl, iteT ?_⟩⟩⟩
  refine ⟨_, rfl, a, rfl, ?_⟩
  refine lc_seqA (sq.same s1) fun D hD => ⟨fun i H2 => Same H1 H2 ∧ H2 D = some (.lst (List.replicate i (V.bl true))), ⟨upd_new hD, upd_same⟩, fun i H2 _ z => ?_, ?_, ?_⟩
  · obtain ⟨o, e⟩ := (sq.same s1).there
    rw [e, z.1 _ _ e]
  · rintro i x H2 hx ⟨s2, h2⟩
    obtain ⟨p, hp, rfl⟩ := map_at hx
    obtain ⟨n, hn, r⟩ := al.get hp
    have li := (List.getElem?_eq_some_iff.mp hn).1
    refine ⟨rfl, yes_of ⟨_, rfl, _, n, rfl, .inl ⟨p, rfl, r.same (s1.trans s2)⟩, ?_⟩⟩
    exact ⟨_, h2, by rw [List.length_replicate]; omega, same_upd hD s2, by rw [rep_snoc, upd_same]⟩
  · rintro H2 ⟨s2, h2⟩
    refine ⟨D, List.replicate _ true, rfl, SqL.of (by rw [h2, List.map_replicate]), ?_⟩
    rw [all_true]
    exact q H2 (s1.trans s2)
theorem seq_asg {te : TE} {g : TG} {T : TS} {D : Ends} {σ : L2.St} {H : Hp} (h : te σ H fun v H1 => g v σ H1 (T D)) : tSeq (tAsg te g) T D σ H := h
theorem mk_int {C : Addr} {σ : L2.St} {H : Hp} {n : Int} {Q : VK} {E : XK} (hn : n.natAbs < 2 ^ 100) (q : NewS C H (6 * n) Q) : tMake C (spRI C) [V.int 1] E (tCons (tC (V.int n)) tNil) σ H Q := mk_one hn q
/-- an own operator of a class -/
structure Own (P : Program) (w : World) (K : PySem.W.Frag) (mg : Str → Option Value) (base : Heap) (C : Addr) (CX : CXT) (k : Nat) (nm : Str) (ps : List Str) (sp : Sp) : Prop where
  h : ∃ f fd, OwnM K C nm f ∧ Binds K fd ps [] ∧ FnOk P w K mg base CX k f fd ps sp
/-- + of the class, with itself at the right -/
structure AddO (P : Program) (w : World) (K : PySem.W.Frag) (mg : Str → Option Value) (base : Heap) (C : Addr) (CX : CXT) (k : Nat) (sp : Sp) : Prop where
  o : Own P w K mg base C CX k "__add__" ["self", "other"] sp
  sf : PySem.W.selfFirst K C = true
  nr : PySem.W.findIn K (.ref C) (dunderR Operator.Add.info.2) = some none
theorem scAdded : FnScope ["ratios", "total", "ratio"] ["ratios"] (defScope sAdded) := ⟨rfl, rfl, rfl, by decide +kernel, rfl, by decide +kernel, by decide +kernel⟩
theorem ok_added (R : RatF K C) (HA : HasAre P w K mg base C) (MR : MkR P w K mg base C) (OA : AddO P w K mg base C CX0 5 (spSum C)) (F : DefAt K "added" "added" sAdded f fd) : FnOk P w K mg base CX0 6 f fd ["ratios"] (spAdded C) := by
  obtain ⟨fa, fda, mA, kA, bA, GA⟩ := HA.h
  obtain ⟨fm, fdm, ds, M, GM, _, hv, bM⟩ := MR.m
  obtain ⟨fo, fdo, MO, bO, GO⟩ := OA.o.h
  refine okN F scAdded (fun vs H Q E ⟨a, ss, e, _⟩ => by rw [e]; rfl) (fun cdv A outer s H vs Q E hr ⟨a, ss, e, sl, fw, q⟩ => ?_)
  subst e
  refine ⟨_, pss_cons (ps_if (pt_not (pt_val (pe_call GA (hr.mono (by decide)) rfl mA kA bA .nil pass0 (pa_cons (pv 0) pa_nil)))) pss_dead pss_nil)
    (pss_cons (ps_set (i := 1) scAdded.nd rfl (Or.inl rfl) (pe_make M GM (hr.mono (by decide)) rfl MR.g bM hv pass0 (pa_cons pe_int pa_nil)))
    (pss_cons (ps_for PassesOwn.never rfl (pi_seq (pv 0)) (pg_name (i := 2) scAdded.nd rfl (Or.inl rfl)) (pss_one (ps_set (i := 1) scAdded.nd rfl (Or.inl rfl) (pe_op (op_own (op := .Add) MO OA.sf OA.nr GO hr bO pass0) (pv 1) (pv 2)))))
    (pss_one (ps_ret (pv 1))))), ?_⟩
  have l := fw.len
  refine ⟨_, rfl, a, ss, rfl, sl, by omega, fun H1 s1 => ⟨true, rfl, iteF ?_⟩⟩
  dsimp only [tNext]
  refine seq_asg ?_
  refine mk_int (by decide) fun p H2 s2 np hp => ?_
  have s02 := s1.trans s2
  obtain ⟨as, ha, al⟩ := sl.same s02
  refine ⟨_, rfl, a, rfl, ?_⟩
  refine for_seqA (.inl ha) (fun i σ H3 => ∃ p' v', σ = [some (.ref a), some (.ref p'), v'] ∧ Same H2 H3 ∧ H p' = none ∧ Six C H3 p' (ss.take i).sum) ⟨p, none, rfl, Same.refl _, s1.free np, hp⟩ (fun i σ H3 _ z => by obtain ⟨_, _, _, s3, _⟩ := z; rw [s3 _ _ ha, ha]) ?_ ?_
  · rintro i x σ H3 hx ⟨p', v', rfl, s3, np', i1⟩
    obtain ⟨b, hb, rfl⟩ := map_at hx
    obtain ⟨n, hn, r⟩ := al.get hb
    obtain ⟨dy, at1⟩ := id i1
    have sn := fw.sm n (List.mem_of_getElem? hn)
    obtain ⟨dz, at2⟩ := r.same s3
    refine ⟨_, rfl, _, rfl, p', dy, _, rfl, at1, .inl ⟨b, dz, _, rfl, at2⟩, p', .ref b, _, n, rfl, i1, .inl ⟨b, rfl, r.same s3⟩, few_sum fw i, by show n.natAbs < 2 ^ 60; omega, fun p2 H4 s4 np2 hp2 => ?_⟩
    refine ⟨p2, some (.ref b), rfl, s3.trans s4, (s02.trans s3).free np2, ?_⟩
    rw [take_more hn, List.sum_append, List.sum_singleton]
    exact hp2
  · rintro σ H3 ⟨p', v', rfl, s3, np', i1⟩
    rw [List.length_map, al.1, List.take_length] at i1
    exact ⟨_, rfl, q p' H3 (s02.trans s3) np' i1⟩
end
end K5

/-! k05: hand-overs as objects. -/
namespace K5
open PySem PySem.Spec PyProof.Rows L2 LamX K1 K18

/-- all but what stands at p stays -/
def Keep (p : Addr) (H H' : Hp) : Prop := ∀ c o, c ≠ p → H c = some o → H' c = some o
theorem Keep.refl (p : Addr) (H : Hp) : Keep p H H := fun _ _ _ e => e
theorem Keep.trans {p : Addr} {H H1 H2 : Hp} (a : Keep p H H1) (b : Keep p H1 H2) : Keep p H H2 := fun c o n e => b c o n (a c o n e)
theorem Same.keep {p : Addr} {H H' : Hp} (s : Same H H') : Keep p H H' := fun c o _ e => s c o e
theorem Keep.upd {p : Addr} {H : Hp} {o : HO} : Keep p H (upd H p o) := fun c u n e => by rw [upd_ne n]; exact e
theorem fsR_ne (t b : Int) : fsR t b ≠ [] := fun z => by have := fsR_top t b; rw [z] at this; cases this
theorem Six.ne {C CH : Addr} {H : Hp} {a x dx : Addr} {s : Int} (h : Six C H a s) (hx : H x = some (.ins CH dx [])) : a ≠ x := by
  rintro rfl
  obtain ⟨dy, h⟩ := h
  rw [hx] at h
  injection h with h
  injection h with _ _ h
  exact fsR_ne _ _ h.symm
theorem SixV.keep {C CH : Addr} {H H' : Hp} {v : V} {x dx : Addr} {s : Int} (h : SixV C H v s) (hx : H x = some (.ins CH dx [])) (k : Keep x H H') : SixV C H' v s := by
  rcases h with ⟨a, e, r⟩ | h
  · have n := r.ne hx
    obtain ⟨dy, r⟩ := r
    exact .inl ⟨a, e, dy, k _ _ n r⟩
  · exact .inr h
/-- one hand-over, its worths in sixths -/
structure Hnd where
  g : Str
  t : Str
  c : Int
  d : Int
  deriving DecidableEq
structure HnOk (h : Hnd) : Prop where
  ng : Nm h.g
  nt : Nm h.t
  ne : h.g ≠ h.t
  c0 : 0 ≤ h.c
  d0 : 0 ≤ h.d
  cs : h.c.natAbs < 2 ^ 50
  ds : h.d.natAbs < 2 ^ 50
def Hnd.back (h : Hnd) : Hnd := ⟨h.t, h.g, h.d, h.c⟩
theorem HnOk.back {h : Hnd} (k : HnOk h) : HnOk h.back := ⟨k.nt, k.ng, Ne.symm k.ne, k.d0, k.c0, k.ds, k.cs⟩
def Hnd.eff (h : Hnd) (n : Str) : Int := if n = h.g then -h.c else if n = h.t then h.d else 0
theorem eff_sm {h : Hnd} (k : HnOk h) (n : Str) : (h.eff n).natAbs < 2 ^ 50 := by
  unfold Hnd.eff
  have := k.cs
  have := k.ds
  split
  · omega
  · split <;> omega
/-! its attributes -/
theorem n_tg : ¬ (("taker" : Str) = "giver") := by decide +kernel
theorem n_cg : ¬ (("cost" : Str) = "giver") := by decide +kernel
theorem n_ct : ¬ (("cost" : Str) = "taker") := by decide +kernel
theorem n_gg : ¬ (("gain" : Str) = "giver") := by decide +kernel
theorem n_gt : ¬ (("gain" : Str) = "taker") := by decide +kernel
theorem n_gc : ¬ (("gain" : Str) = "cost") := by decide +kernel
def fh1 (g : Str) : List (Str × V) := putF "giver" (.str g) []
def fh2 (g t : Str) : List (Str × V) := putF "taker" (.str t) (fh1 g)
def fh3 (g t : Str) (c : Addr) : List (Str × V) := putF "cost" (.ref c) (fh2 g t)
def fsH (g t : Str) (c d : Addr) : List (Str × V) := putF "gain" (.ref d) (fh3 g t c)
section
variable (g t : Str) (c d : Addr)
theorem fh_g : (fsH g t c d).lookup ("giver" : Str) = some (.str g) := by unfold fsH fh3 fh2 fh1; rw [lookup_putF, if_neg (Ne.symm n_gg), lookup_putF, if_neg (Ne.symm n_cg), lookup_putF, if_neg (Ne.symm n_tg), lookup_putF, if_pos rfl]
theorem fh_t : (fsH g t c d).lookup ("taker" : Str) = some (.str t) := by unfold fsH fh3 fh2; rw [lookup_putF, if_neg (Ne.symm n_gt), lookup_putF, if_neg (Ne.symm n_ct), lookup_putF, if_pos rfl]
theorem fh_c : (fsH g t c d).lookup ("cost" : Str) = some (.ref c) := by unfold fsH fh3; rw [lookup_putF, if_neg (Ne.symm n_gc), lookup_putF, if_pos rfl]
theorem fh_d : (fsH g t c d).lookup ("gain" : Str) = some (.ref d) := by unfold fsH; rw [lookup_putF, if_pos rfl]
theorem fh_no {m : Str} (h1 : ¬ (m = "giver")) (h2 : ¬ (m = "taker")) (h3 : ¬ (m = "cost")) (h4 : ¬ (m = "gain")) : (fsH g t c d).lookup m = none := by
  unfold fsH fh3 fh2 fh1
  rw [lookup_putF, if_neg h4, lookup_putF, if_neg h3, lookup_putF, if_neg h2, lookup_putF, if_neg h1]
  rfl
theorem fh_len1 : (fh1 g).length < 1000 := by show 1 < 1000; decide
theorem fh_len2 : (fh2 g t).length < 1000 := by show 2 < 1000; decide
theorem fh_len3 : (fh3 g t c).length < 1000 := by show 3 < 1000; decide
end
/-- at a stands the HandOver h -/
def HandAt (C CH : Addr) (H : Hp) (a : Addr) (h : Hnd) : Prop := ∃ dx pc pd, H a = some (.ins CH dx (fsH h.g h.t pc pd)) ∧ Six C H pc h.c ∧ Six C H pd h.d
theorem HandAt.same {C CH : Addr} {H H' : Hp} {a : Addr} {h : Hnd} (s : Same H H') (k : HandAt C CH H a h) : HandAt C CH H' a h := let ⟨dx, pc, pd, x, y, z⟩ := k; ⟨dx, pc, pd, s _ _ x, y.same s, z.same s⟩
structure HandF (K : PySem.W.Frag) (C : Addr) : Prop extends ClsF K C where
  nG : NoAttr K C "giver"
  nT : NoAttr K C "taker"
  nC : NoAttr K C "cost"
  nD : NoAttr K C "gain"
def spHInit (C CH : Addr) : Sp := fun vs H Q _ => ∃ (x dx : Addr) (h : Hnd) (vc vd : V), vs = [.ref x, .str h.g, .str h.t, vc, vd] ∧ H x = some (.ins CH dx []) ∧ HnOk h ∧ SixV C H vc h.c ∧ SixV C H vd h.d ∧
  ∀ H', Keep x H H' → HandAt C CH H' x h → Q .non H'
def spRet (C CH : Addr) : Sp := fun vs H Q _ => ∃ a h, vs = [.ref a] ∧ HandAt C CH H a h ∧ HnOk h ∧ ∀ p H', Same H H' → H p = none → HandAt C CH H' p h.back → Q (.ref p) H'
def spEff (C CH : Addr) : Sp := fun vs H Q _ => ∃ a h n, vs = [.ref a, .str n] ∧ HandAt C CH H a h ∧ HnOk h ∧ ∀ p H', Same H H' → Six C H' p (h.eff n) → Q (.ref p) H'
def spHEq (C CH : Addr) : Sp := fun vs H Q _ => ∃ a b h k, vs = [.ref a, .ref b] ∧ HandAt C CH H a h ∧ HandAt C CH H b k ∧ Q (.bl (decide (h = k))) H
/-- HandOver(e, ..) -/
structure MkH (P : Program) (w : World) (K : PySem.W.Frag) (mg : Str → Option Value) (base : Heap) (C CH : Addr) : Prop where
  g : mg "HandOver" = some (.ref CH)
  m : ∃ f fd, Mk K CH f ∧ FnOk P w K mg base CX0 7 f fd ["self", "giver", "taker", "cost", "gain"] (spHInit C CH) ∧ Binds K fd ["self", "giver", "taker", "cost", "gain"] []
theorem mk_hand {C CH : Addr} {H : Hp} {h : Hnd} {vc vd : V} {Q : VK} {E : XK} (k : HnOk h) (sc : SixV C H vc h.c) (sd : SixV C H vd h.d) (q : ∀ p H', Same H H' → H p = none → HandAt C CH H' p h → Q (.ref p) H') :
    ∀ x dx, H x = none → H dx = none → dx ≠ x → spHInit C CH [.ref x, .str h.g, .str h.t, vc, vd] (upd (upd H dx (.own x)) x (.ins CH dx [])) (fun v H2 => v = .non ∧ Q (.ref x) H2) E := fun x dx hx hd ne => by
  have s1 : Same H (upd (upd H dx (.own x)) x (.ins CH dx [])) := fun o u e => by rw [upd_ne (ne_of_none e hx), upd_ne (ne_of_none e hd)]; exact e
  exact ⟨x, dx, h, vc, vd, rfl, upd_same, k, sc.same s1, sd.same s1, fun H' kp ha => ⟨rfl, q x H' (fun o u e => kp o u (ne_of_none e hx) (s1 o u e)) hx ha⟩⟩
section
variable {P : Program} {w : World} {K : PySem.W.Frag} {mg : Str → Option Value} {base : Heap} {f C CH : Addr} {fd : FuncData}
abbrev HasAmount (P : Program) (w : World) (K : PySem.W.Frag) (mg : Str → Option Value) (base : Heap) (C : Addr) : Prop := Has P w K mg base CX0 6 "is_amount" ["value"] (spAmount C)
abbrev nHI : List Str := ["self", "giver", "taker", "cost", "gain"]
theorem scHI : FnScope nHI nHI (defScope sHInit) := ⟨rfl, rfl, rfl, by decide +kernel, rfl, by decide +kernel, by decide +kernel⟩
theorem ok_hinit (R : HandF K CH) (HN : HasName P w K mg base) (HA : HasAmount P w K mg base C) (RM : RatM P w K mg base C) (F : DefAt K "__init__" "HandOver.__init__" sHInit f fd) : FnOk P w K mg base CX0 7 f fd nHI (spHInit C CH) := by
  obtain ⟨fn, fdn, mN, kN, bN, GN⟩ := HN.h
  obtain ⟨fa, fda, mA, kA, bA, GA⟩ := HA.h
  obtain ⟨fo, fdo, MO, bO, GO⟩ := RM.of
  refine okN F scHI (fun vs H Q E ⟨x, dx, h, vc, vd, e, _⟩ => by rw [e]; rfl) (fun cdv A outer s H vs Q E hr ⟨x, dx, h, vc, vd, e, hx, k, sc, sd, q⟩ => ?_)
  subst e
  have r1 := hr.mono (show 1 ≤ 6 by decide)
  have r5 := hr.mono (show 5 ≤ 6 by decide)
  refine ⟨_, pss_cons (ps_if (pt_not (pt_val (pe_call GN r1 rfl mN kN bN .nil pass0 (pa_cons (pv 1) pa_nil)))) pss_dead pss_nil)
    (pss_cons (ps_if (PW.pt (pw_or (pt_not (pt_val (pe_call GN r1 rfl mN kN bN .nil pass0 (pa_cons (pv 2) pa_nil)))) (pw_or1 (pt_cmpR op_eq (pv 2) (pv 1) (nomark _))))) pss_dead pss_nil)
    (pss_cons (ps_if (pt_not (pt_val (pe_call GA hr rfl mA kA bA .nil pass0 (pa_cons (pv 3) pa_nil)))) pss_dead pss_nil)
    (pss_cons (ps_if (pt_not (pt_val (pe_call GA hr rfl mA kA bA .nil pass0 (pa_cons (pv 4) pa_nil)))) pss_dead pss_nil)
    (pss_cons (ps_fld (pv 0) (pv 1) rfl)
    (pss_cons (ps_fld (pv 0) (pv 2) rfl)
    (pss_cons (ps_fld (pv 0) (pe_smeth (pe_glob (v := .ref C) rfl RM.g rfl) RM.r MO GO r5 bO pass0 (pa_cons (pv 3) pa_nil)) rfl)
    (pss_one (ps_fld (pv 0) (pe_smeth (pe_glob (v := .ref C) rfl RM.g rfl) RM.r MO GO r5 bO pass0 (pa_cons (pv 4) pa_nil)) rfl)))))))), ?_⟩
  refine ⟨_, rfl, _, rfl, k.ng, fun H1 s1 => ⟨true, rfl, iteF ?_⟩⟩
  refine ⟨_, rfl, _, rfl, k.nt, fun H2 s2 => ⟨true, rfl, iteF ?_⟩⟩
  refine ⟨_, rfl, _, rfl, rfl, false, by rw [decS, decide_eq_false (Ne.symm k.ne)], iteF ?_⟩
  have s02 := s1.trans s2
  refine ⟨_, rfl, _, h.c, rfl, sc.same s02, by have := k.cs; show h.c.natAbs < 2 ^ 60; omega, k.c0, fun H3 s3 => ⟨true, rfl, iteF ?_⟩⟩
  have s03 := s02.trans s3
  refine ⟨_, rfl, _, h.d, rfl, sd.same s03, by have := k.ds; show h.d.natAbs < 2 ^ 60; omega, k.d0, fun H4 s4 => ⟨true, rfl, iteF ?_⟩⟩
  have s04 := s03.trans s4
  have h4 := s04 _ _ hx
  refine ⟨_, rfl, _, rfl, x, CH, dx, [], rfl, h4, R.cl, R.nG, (by show 0 < 1000; decide), ?_⟩
  refine ⟨_, rfl, _, rfl, x, CH, dx, fh1 h.g, rfl, upd_same, R.cl, R.nT, fh_len1 _, ?_⟩
  rw [upd_upd]
  have k5 : Keep x H (upd H4 x (.ins CH dx (fh2 h.g h.t))) := fun b o n e => by rw [upd_ne n]; exact s04 _ _ e
  have x5 : upd H4 x (.ins CH dx (fh2 h.g h.t)) x = some (.ins CH dx (fh2 h.g h.t)) := upd_same
  show tSeq _ _ _ _ (upd H4 x (.ins CH dx (fh2 h.g h.t)))
  generalize upd H4 x (.ins CH dx (fh2 h.g h.t)) = H5 at k5 x5 ⊢
  have six5 := (sc.keep hx k5)
  refine ⟨rfl, _, rfl, _, h.c, rfl, six5, by have := k.cs; show h.c.natAbs < 2 ^ 60; omega, fun pc H6 s6 hpc => ?_⟩
  have x6 := s6 _ _ x5
  have k6 : Keep x H H6 := k5.trans (Same.keep s6)
  refine ⟨_, rfl, x, CH, dx, fh2 h.g h.t, rfl, x6, R.cl, R.nC, fh_len2 _ _, ?_⟩
  have npc : pc ≠ x := by
    rintro rfl
    obtain ⟨dy, z⟩ := hpc
    rw [x6] at z
    injection z with z
    injection z with _ _ z
    have := fsR_top (rT h.c 6) (rB h.c 6)
    rw [← show fh2 h.g h.t = fsR (rT h.c 6) (rB h.c 6) from z] at this
    unfold fh2 fh1 at this
    rw [lookup_putF, if_neg (by decide +kernel), lookup_putF, if_neg (by decide +kernel)] at this
    cases this
  have k7 : Keep x H (upd H6 x (.ins CH dx (fh3 h.g h.t pc))) := fun b o n e => by rw [upd_ne n]; exact k6 _ _ n e
  have x7 : upd H6 x (.ins CH dx (fh3 h.g h.t pc)) x = some (.ins CH dx (fh3 h.g h.t pc)) := upd_same
  have hpc7 : Six C (upd H6 x (.ins CH dx (fh3 h.g h.t pc))) pc h.c := let ⟨dy, z⟩ := hpc; ⟨dy, by rw [upd_ne npc]; exact z⟩
  refine ⟨rfl, _, rfl, _, h.d, rfl, sd.keep hx k7, by have := k.ds; show h.d.natAbs < 2 ^ 60; omega, fun pd H8 s8 hpd => ?_⟩
  have x8 := s8 _ _ x7
  have k8 : Keep x H H8 := k7.trans (Same.keep s8)
  refine ⟨_, rfl, x, CH, dx, fh3 h.g h.t pc, rfl, x8, R.cl, R.nD, fh_len3 _ _ _, ?_⟩
  have npd : pd ≠ x := by
    rintro rfl
    obtain ⟨dy, z⟩ := hpd
    rw [x8] at z
    injection z with z
    injection z with _ _ z
    have := fsR_top (rT h.d 6) (rB h.d 6)
    rw [← show fh3 h.g h.t pc = fsR (rT h.d 6) (rB h.d 6) from z] at this
    unfold fh3 fh2 fh1 at this
    rw [lookup_putF, if_neg (by decide +kernel), lookup_putF, if_neg (by decide +kernel), lookup_putF, if_neg (by decide +kernel)] at this
    cases this
  refine q _ (fun b o n e => by rw [upd_ne n]; exact k8 _ _ n e) ⟨dx, pc, pd, upd_same, ?_, ?_⟩
  · obtain ⟨dy, z⟩ := hpc7.same s8
    exact ⟨dy, by rw [upd_ne npc]; exact z⟩
  · obtain ⟨dy, z⟩ := hpd
    exact ⟨dy, by rw [upd_ne npd]; exact z⟩
theorem scHR : FnScope ["self"] ["self"] (defScope sHRet) := ⟨rfl, rfl, rfl, by decide +kernel, rfl, by decide +kernel, by decide +kernel⟩
theorem ok_hret (R : HandF K CH) (M : MkH P w K mg base C CH) (F : DefAt K "returned" "HandOver.returned" sHRet f fd) : FnOk P w K mg base CX0 9 f fd ["self"] (spRet C CH) := by
  obtain ⟨fm, fdm, Mm, GM, bM⟩ := M.m
  refine okN F scHR (fun vs H Q E ⟨a, h, e, _⟩ => by rw [e]; rfl) (fun cdv A outer s H vs Q E hr ⟨a, h, e, ha, k, q⟩ => ?_)
  subst e
  refine ⟨_, pss_one (ps_ret (pe_make Mm GM hr rfl M.g bM .nil pass0 (pa_cons (pe_fld (pv 0) rfl) (pa_cons (pe_fld (pv 0) rfl) (pa_cons (pe_fld (pv 0) rfl) (pa_cons (pe_fld (pv 0) rfl) pa_nil)))))), ?_⟩
  obtain ⟨dx, pc, pd, h1, sc, sd⟩ := ha
  refine ⟨_, rfl, a, CH, dx, _, _, rfl, h1, R.cl, R.nT, fh_t _ _ _ _, _, rfl, a, CH, dx, _, _, rfl, h1, R.cl, R.nG, fh_g _ _ _ _, _, rfl, a, CH, dx, _, _, rfl, h1, R.cl, R.nD, fh_d _ _ _ _, _, rfl, a, CH, dx, _, _, rfl, h1, R.cl, R.nC, fh_c _ _ _ _, ?_⟩
  exact mk_hand (h := h.back) k.back (.inl ⟨pd, rfl, sd⟩) (.inl ⟨pc, rfl, sc⟩) q
theorem scHE : FnScope ["self", "name"] ["self", "name"] (defScope sHEff) := ⟨rfl, rfl, rfl, by decide +kernel, rfl, by decide +kernel, by decide +kernel⟩
theorem ok_heff (R : HandF K CH) (ON : Own P w K mg base C CX0 4 "__neg__" ["self"] (spNeg C)) (MR : MkR P w K mg base C) (F : DefAt K "effect" "HandOver.effect" sHEff f fd) : FnOk P w K mg base CX0 5 f fd ["self", "name"] (spEff C CH) := by
  obtain ⟨fn, fdn, MN, bN, GN⟩ := ON.h
  obtain ⟨fm, fdm, ds, M, GM, _, hv, bM⟩ := MR.m
  refine okN F scHE (fun vs H Q E ⟨a, h, n, e, _⟩ => by rw [e]; rfl) (fun cdv A outer s H vs Q E hr ⟨a, h, n, e, ha, k, q⟩ => ?_)
  subst e
  refine ⟨_, pss_cons (ps_if (pt_cmpR op_eq (pv 1) (pe_fld (pv 0) rfl) (nomark _)) (pss_one (ps_ret (pe_un (un_own MN GN hr bN pass0) (pe_fld (pv 0) rfl)))) pss_nil)
    (pss_cons (ps_if (pt_cmpR op_eq (pv 1) (pe_fld (pv 0) rfl) (nomark _)) (pss_one (ps_ret (pe_fld (pv 0) rfl))) pss_nil)
    (pss_one (ps_ret (pe_make M GM (hr.mono (by decide)) rfl MR.g bM hv pass0 (pa_cons pe_int pa_nil))))), ?_⟩
  obtain ⟨dx, pc, pd, h1, sc, sd⟩ := ha
  have hcs := k.cs
  refine ⟨_, rfl, _, rfl, a, CH, dx, _, _, rfl, h1, R.cl, R.nG, fh_g _ _ _ _, rfl, decide (n = h.g), by rw [decS], ?_⟩
  unfold Hnd.eff at q
  by_cases e1 : n = h.g
  · rw [decide_eq_true e1]
    rw [if_pos e1] at q
    obtain ⟨dy, z⟩ := id sc
    exact iteT ⟨_, rfl, a, CH, dx, _, _, rfl, h1, R.cl, R.nC, fh_c _ _ _ _, pc, dy, _, rfl, z, pc, h.c, rfl, sc, by show h.c.natAbs < 2 ^ 60; omega, fun p H' s' np hp => q p H' s' hp⟩
  · rw [decide_eq_false e1]
    rw [if_neg e1] at q
    refine iteF ⟨_, rfl, _, rfl, a, CH, dx, _, _, rfl, h1, R.cl, R.nT, fh_t _ _ _ _, rfl, decide (n = h.t), by rw [decS], ?_⟩
    by_cases e2 : n = h.t
    · rw [decide_eq_true e2]
      rw [if_pos e2] at q
      exact iteT ⟨_, rfl, a, CH, dx, _, _, rfl, h1, R.cl, R.nD, fh_d _ _ _ _, q pd H (Same.refl H) sd⟩
    · rw [decide_eq_false e2]
      rw [if_neg e2] at q
      refine iteF ?_
      exact mk_one (n := 0) (by decide) fun p H' s' np hp => q p H' s' hp
theorem scHQ : FnScope ["self", "other"] ["self", "other"] (defScope sHEq) := ⟨rfl, rfl, rfl, by decide +kernel, rfl, by decide +kernel, by decide +kernel⟩
/-- == of a class among its own -/
structure EqO (P : Program) (w : World) (K : PySem.W.Frag) (mg : Str → Option Value) (base : Heap) (C : Addr) (k : Nat) (sp : Sp) : Prop where
  o : Own P w K mg base C CX0 k "__eq__" ["self", "other"] sp
  nf : PySem.W.notFirst K C (.ref C) = true
theorem ok_heq (G : Glob mg) (R : HandF K CH) (RR : RatF K C) (gH : mg "HandOver" = some (.ref CH)) (OE : EqO P w K mg base C 1 (spREq C)) (F : DefAt K "__eq__" "HandOver.__eq__" sHEq f fd) : FnOk P w K mg base CX0 2 f fd ["self", "other"] (spHEq C CH) := by
  obtain ⟨fe, fde, ME, bE, GE⟩ := OE.o.h
  refine okN F scHQ (fun vs H Q E ⟨a, b, h, k, e, _⟩ => by rw [e]; rfl) (fun cdv A outer s H vs Q E hr ⟨a, b, h, k, e, ha, hb, q⟩ => ?_)
  subst e
  refine ⟨_, pss_cons (ps_if (PW.pt (pw_or (pt_not (pt_val (pe_callB call_isi (by rfl) G.isi (by decide +kernel) (pa_cons (pv 1) (pa_cons (pe_glob (v := .ref CH) rfl gH rfl) pa_nil)))))
      (pw_or (pt_cmpR op_ne (pe_fld (pv 0) rfl) (pe_fld (pv 1) rfl) (nomark _)) (pw_or1 (pt_cmpR op_ne (pe_fld (pv 0) rfl) (pe_fld (pv 1) rfl) (nomark _)))))) (pss_one (ps_ret pe_bl)) pss_nil)
    (pss_one (ps_ret (pe_and (pe_cmpR (op_eqO ME GE hr bE pass0) (pe_fld (pv 0) rfl) (pe_fld (pv 1) rfl) (nomark _)) (pe_one (pe_cmpR (op_eqO ME GE hr bE pass0) (pe_fld (pv 0) rfl) (pe_fld (pv 1) rfl) (nomark _)))))), ?_⟩
  obtain ⟨dx, pc, pd, h1, sc, sd⟩ := ha
  obtain ⟨dy, qc, qd, h2, tc, td⟩ := hb
  refine ⟨_, rfl, _, _, _, _, _, rfl, .own CH, .base (R.ty h2), R.me, true, rfl, iteF ?_⟩
  refine ⟨_, rfl, a, CH, dx, _, _, rfl, h1, R.cl, R.nG, fh_g _ _ _ _, _, rfl, b, CH, dy, _, _, rfl, h2, R.cl, R.nG, fh_g _ _ _ _, rfl, !decide (h.g = k.g), by rw [decS], ?_⟩
  by_cases e1 : h.g = k.g
  · rw [decide_eq_true e1]
    refine iteF ⟨_, rfl, a, CH, dx, _, _, rfl, h1, R.cl, R.nT, fh_t _ _ _ _, _, rfl, b, CH, dy, _, _, rfl, h2, R.cl, R.nT, fh_t _ _ _ _, rfl, !decide (h.t = k.t), by rw [decS], ?_⟩
    by_cases e2 : h.t = k.t
    · rw [decide_eq_true e2]
      obtain ⟨ex, x1⟩ := id sc
      obtain ⟨ey, y1⟩ := id tc
      obtain ⟨gx, x2⟩ := id sd
      obtain ⟨gy, y2⟩ := id td
      refine iteF ⟨_, rfl, a, CH, dx, _, _, rfl, h1, R.cl, R.nC, fh_c _ _ _ _, _, rfl, b, CH, dy, _, _, rfl, h2, R.cl, R.nC, fh_c _ _ _ _, pc, ex, _, _, rfl, x1, RR.ty y1, OE.nf, pc, qc, h.c, k.c, rfl, sc, tc, _, rfl, ?_⟩
      by_cases e3 : h.c = k.c
      · rw [decide_eq_true e3]
        refine iteT ⟨_, rfl, a, CH, dx, _, _, rfl, h1, R.cl, R.nD, fh_d _ _ _ _, _, rfl, b, CH, dy, _, _, rfl, h2, R.cl, R.nD, fh_d _ _ _ _, pd, gx, _, _, rfl, x2, RR.ty y2, OE.nf, pd, qd, h.d, k.d, rfl, sd, td, ?_⟩
        rw [decide_eq_decide.mpr (show h = k ↔ h.d = k.d from ⟨fun z => by rw [z], fun z => by cases h; cases k; simp_all⟩)] at q
        exact q
      · rw [decide_eq_false e3]
        rw [decide_eq_false (show ¬ h = k from fun z => e3 (by rw [z]))] at q
        exact iteF q
    · rw [decide_eq_false e2]
      rw [decide_eq_false (show ¬ h = k from fun z => e2 (by rw [z]))] at q
      exact iteT q
  · rw [decide_eq_false e1]
    rw [decide_eq_false (show ¬ h = k from fun z => e1 (by rw [z]))] at q
    exact iteT q
end
end K5

/-! k05: swaps as objects; their making. -/
namespace K5
open PySem PySem.Spec PyProof.Rows L2 LamX K1 K18

/-! a text among texts -/
theorem eqv_S (a b : Str) : eqV (.str a) (.str b) = decide (a = b) := by
  show (a == b) = _
  by_cases h : a = b
  · rw [decide_eq_true h, h]; simp
  · rw [decide_eq_false h]; simpa using h
theorem inV_S (n : Str) (ns : List Str) : inV (.str n) (ns.map V.str) = decide (n ∈ ns) := by
  unfold inV
  induction ns with
  | nil => simp
  | cons a r ih =>
    rw [List.map_cons, List.any_cons, ih, eqv_S, Bool.eq_iff_iff, Bool.or_eq_true, decide_eq_true_iff, decide_eq_true_iff, decide_eq_true_iff, List.mem_cons]
    exact or_congr eq_comm Iff.rfl
theorem flat_S (ns : List Str) : (ns.map V.str).all flatV = true := by rw [List.all_map]; exact List.all_eq_true.mpr fun _ _ => rfl
/-! ### its attributes -/
theorem n_hs : ¬ (("hands" : Str) = "strangers") := by decide +kernel
theorem n_ns : ¬ (("nets" : Str) = "strangers") := by decide +kernel
theorem n_nh : ¬ (("nets" : Str) = "hands") := by decide +kernel
def fs1 (p : Addr) : List (Str × V) := putF "strangers" (.ref p) []
def fs2 (p h : Addr) : List (Str × V) := putF "hands" (.ref h) (fs1 p)
def fsS (p h n : Addr) : List (Str × V) := putF "nets" (.ref n) (fs2 p h)
section
variable (p h n : Addr)
theorem fs_s : (fsS p h n).lookup ("strangers" : Str) = some (.ref p) := by unfold fsS fs2 fs1; rw [lookup_putF, if_neg (Ne.symm n_ns), lookup_putF, if_neg (Ne.symm n_hs), lookup_putF, if_pos rfl]
theorem fs_h : (fsS p h n).lookup ("hands" : Str) = some (.ref h) := by unfold fsS fs2; rw [lookup_putF, if_neg (Ne.symm n_nh), lookup_putF, if_pos rfl]
theorem fs_n : (fsS p h n).lookup ("nets" : Str) = some (.ref n) := by unfold fsS; rw [lookup_putF, if_pos rfl]
end
/-- what one has had at the end -/
def net (hs : List Hnd) (n : Str) : Int := ((hs.filter fun h => decide (n = h.g) || decide (n = h.t)).map fun h => h.eff n).sum
structure SwOk (ns : List Str) (hs : List Hnd) : Prop where
  n2 : 2 ≤ ns.length
  n6 : ns.length ≤ 6
  nd : ns.Nodup
  nm : ∀ n ∈ ns, Nm n
  hk : ∀ h ∈ hs, HnOk h ∧ h.g ∈ ns ∧ h.t ∈ ns
/-- the hand-overs of a list, a tuple -/
abbrev Hands (C CH : Addr) (H : Hp) (as : List Addr) (hs : List Hnd) : Prop := All2 (HandAt C CH H) as hs
theorem Hands.same {C CH : Addr} {H H' : Hp} {as : List Addr} {hs : List Hnd} (s : Same H H') (h : Hands C CH H as hs) : Hands C CH H' as hs := h.mono fun _ _ z => z.same s
/-- at a stands Swap(ns, hs) -/
def SwAt (C CH CS : Addr) (H : Hp) (a : Addr) (ns : List Str) (hs : List Hnd) : Prop := ∃ dx ps ph pn as nas, H a = some (.ins CS dx (fsS ps ph pn)) ∧ H ps = some (.tup (ns.map V.str)) ∧ H ph = some (.tup (as.map V.ref)) ∧ Hands C CH H as hs ∧
  H pn = some (.tup (nas.map V.ref)) ∧ All2 (Six C H) nas (ns.map (net hs))
theorem SwAt.same {C CH CS : Addr} {H H' : Hp} {a : Addr} {ns : List Str} {hs : List Hnd} (s : Same H H') (h : SwAt C CH CS H a ns hs) : SwAt C CH CS H' a ns hs :=
  let ⟨dx, ps, ph, pn, as, nas, h1, h2, h3, h4, h5, h6⟩ := h
  ⟨dx, ps, ph, pn, as, nas, s _ _ h1, s _ _ h2, s _ _ h3, h4.same s, s _ _ h5, h6.mono fun _ _ z => z.same s⟩
structure SwapF (K : PySem.W.Frag) (C : Addr) : Prop extends ClsF K C where
  nS : NoAttr K C "strangers"
  nH : NoAttr K C "hands"
  nN : NoAttr K C "nets"
  cr : ClX.CRead K C (.type "type")
  m6 : ∃ u, ClX.CVal K C (.type "type") "MOST_STRANGERS" (.int 6) u
  m40 : ∃ u, ClX.CVal K C (.type "type") "MOST_HANDS" (.int 40) u
theorem fsH_ne (g t : Str) (c d : Addr) : fsH g t c d ≠ [] := fun z => by have := fh_d g t c d; rw [z] at this; cases this
theorem HandAt.keep {C CH CS : Addr} {H H' : Hp} {a x dx : Addr} {h : Hnd} (k : HandAt C CH H a h) (hx : H x = some (.ins CS dx [])) (s : Keep x H H') : HandAt C CH H' a h := by
  obtain ⟨dy, pc, pd, h1, h2, h3⟩ := k
  have na : a ≠ x := by
    rintro rfl
    rw [hx] at h1
    injection h1 with h1
    injection h1 with _ _ h1
    exact fsH_ne _ _ _ _ h1.symm
  have n2 := h2.ne hx
  have n3 := h3.ne hx
  obtain ⟨d2, h2⟩ := h2
  obtain ⟨d3, h3⟩ := h3
  exact ⟨dy, pc, pd, s _ _ na h1, ⟨d2, s _ _ n2 h2⟩, ⟨d3, s _ _ n3 h3⟩⟩
theorem Hands.keep {C CH CS : Addr} {H H' : Hp} {as : List Addr} {x dx : Addr} {hs : List Hnd} (k : Hands C CH H as hs) (hx : H x = some (.ins CS dx [])) (s : Keep x H H') : Hands C CH H' as hs := k.mono fun _ _ z => z.keep hx s
theorem sqa_keep {H H' : Hp} {a x C dx : Addr} {fs : List (Str × V)} {xs : List V} (q : SqA H a xs) (hx : H x = some (.ins C dx fs)) (s : Keep x H H') : SqA H' a xs := by
  rcases q with q | q
  · exact .inl (s _ _ (ne_of q hx (fun z => nomatch z)) q)
  · exact .inr (s _ _ (ne_of q hx (fun z => nomatch z)) q)
def spParties (C CH : Addr) : Sp := fun vs H Q _ => ∃ (a : Addr) (h : Hnd) (b : Addr) (ns : List Str), vs = [.ref a, .ref b] ∧ HandAt C CH H a h ∧ SqA H b (ns.map V.str) ∧ h.g ∈ ns ∧ h.t ∈ ns ∧ ∀ H', Same H H' → Q .non H'
def spNetOf (C CH : Addr) : Sp := fun vs H Q _ => ∃ (b : Addr) (as : List Addr) (hs : List Hnd) (n : Str), vs = [.ref b, .str n] ∧ SqA H b (as.map V.ref) ∧ Hands C CH H as hs ∧ (∀ h ∈ hs, HnOk h) ∧ hs.length ≤ 100 ∧ ∀ p H', Same H H' → H p = none → Six C H' p (net hs n) → Q (.ref p) H'
section
variable {P : Program} {w : World} {K : PySem.W.Frag} {mg : Str → Option Value} {base : Heap} {f C CH CS : Addr} {fd : FuncData}
theorem scPa : FnScope ["hand", "strangers", "name"] ["hand", "strangers"] (defScope sParties) := ⟨rfl, rfl, rfl, by decide +kernel, rfl, by decide +kernel, by decide +kernel⟩
theorem ok_parties (R : HandF K CH) (F : DefAt K "_check_parties" "_check_parties" sParties f fd) : FnOk P w K mg base CX0 1 f fd ["hand", "strangers"] (spParties C CH) := by
  refine okN F scPa (fun vs H Q E ⟨a, h, b, ns, e, _⟩ => by rw [e]; rfl) (fun cdv A outer s H vs Q E hr ⟨a, h, b, ns, e, ha, sq, m1, m2, q⟩ => ?_)
  subst e
  refine ⟨_, pss_one (ps_for PassesOwn.never rfl (pi_seq (pe_tup (pa_cons (pe_fld (pv 0) rfl) (pa_cons (pe_fld (pv 0) rfl) pa_nil)))) (pg_name (i := 2) scPa.nd rfl (Or.inl rfl))
    (pss_one (ps_if (pt_cmpR op_notIn_seq (pv 2) (pv 1) (by rfl)) pss_dead pss_nil))), ?_⟩
  obtain ⟨dx, pc, pd, h1, sc, sd⟩ := ha
  refine ⟨_, rfl, a, CH, dx, _, _, rfl, h1, R.cl, R.nG, fh_g _ _ _ _, _, rfl, a, CH, dx, _, _, rfl, h1, R.cl, R.nT, fh_t _ _ _ _, (by show 2 ≤ sizeLine; decide), fun t nt => ?_⟩
  have s1 := upd_new (o := .tup [V.str h.g, .str h.t]) nt
  have ht : upd H t (.tup [V.str h.g, .str h.t]) t = some (.tup [V.str h.g, .str h.t]) := upd_same
  generalize upd H t (.tup [V.str h.g, .str h.t]) = H1 at s1 ht ⊢
  refine ⟨t, rfl, ?_⟩
  refine for_seqA (xs := [V.str h.g, .str h.t]) (.inr ht) (fun i σ H2 => H2 = H1 ∧ ∃ z, σ = [some (.ref a), some (.ref b), z]) ⟨rfl, none, rfl⟩ (fun i σ' H' _ z => by rw [z.1]) ?_ ?_
  · rintro i x σ H2 hx ⟨rfl, z, rfl⟩
    obtain ⟨n, rfl, mn⟩ : ∃ n, x = .str n ∧ n ∈ ns := by
      match i, hx with
      | 0, hx => cases hx; exact ⟨_, rfl, m1⟩
      | 1, hx => cases hx; exact ⟨_, rfl, m2⟩
      | i + 2, hx => simp at hx
    refine ⟨_, rfl, _, rfl, b, _, rfl, (sq.same s1).imp SqL.of SqT.of, rfl, flat_S ns, false, ?_, iteF ⟨rfl, _, rfl⟩⟩
    rw [inV_S, decide_eq_true mn]
    rfl
  · rintro σ H2 ⟨rfl, z, rfl⟩
    exact q _ s1
theorem scNet : FnScope ["hands", "name", "hand"] ["hands", "name"] (defScope sNetOf) := ⟨rfl, rfl, rfl, by decide +kernel, rfl, by decide +kernel, by decide +kernel⟩
/-- x.effect(name) -/
structure EffM (P : Program) (w : World) (K : PySem.W.Frag) (mg : Str → Option Value) (base : Heap) (C CH : Addr) : Prop where
  h : ∃ f fd, Meth K CH "effect" f ∧ Binds K fd ["self", "name"] [] ∧ FnOk P w K mg base CX0 5 f fd ["self", "name"] (spEff C CH)
theorem no_eff (g t : Str) (c d : Addr) : (fsH g t c d).lookup ("effect" : Str) = none := fh_no _ _ _ _ (by decide +kernel) (by decide +kernel) (by decide +kernel) (by decide +kernel)
theorem ok_netOf (R : HandF K CH) (EM : EffM P w K mg base C CH) (HA : HasAdded P w K mg base C) (F : DefAt K "_net_of" "_net_of" sNetOf f fd) : FnOk P w K mg base CX0 7 f fd ["hands", "name"] (spNetOf C CH) := by
  obtain ⟨fe, fde, Me, bE, GE⟩ := EM.h
  obtain ⟨fa, fda, mA, kA, bA, GA⟩ := HA.h
  refine okN F scNet (fun vs H Q E ⟨b, as, hs, n, e, _⟩ => by rw [e]; rfl) (fun cdv A outer s H vs Q E hr ⟨b, as, hs, n, e, sq, hh, ok, l, q⟩ => ?_)
  subst e
  refine ⟨_, pss_one (ps_ret (pe_call GA hr rfl mA kA bA .nil pass0 (pa_cons
    (pe_lc (own := [("hand", 2)]) (g := gName 2) rfl scNet.nd (pi_seq (pv 0)) (blkOk_by (N := ["hands", "name", "hand"]) (sc := defScope sNetOf) (by decide +kernel))
      (fun _ _ _ _ _ => pg_name (i := 2) scNet.nd rfl (Or.inl rfl)) (fun _ _ _ _ _ => pts_one (pt_cmpR (r := rIn K false) op_in_seq (pv 1) (pe_tup (pa_cons (show PE _ _ (tFld K (tVar 2) "giver") from pe_fld (pv 2) rfl) (pa_cons (show PE _ _ (tFld K (tVar 2) "taker") from pe_fld (pv 2) rfl) pa_nil))) (by rfl)))
      (fun _ _ _ _ _ => pe_meth (pv 2) R.cl Me GE (hr.mono (by decide)) bE .nil pass0 (pa_cons (pv 1) pa_nil))) pa_nil))), ?_⟩
  have sz : sizeLine = 16777216 := sizeLine_eq
  refine ⟨_, rfl, b, rfl, ?_⟩
  refine lc_seqA sq fun D hD => ⟨fun i H2 => Same H H2 ∧ SixL C H2 D (((hs.take i).filter fun h => decide (n = h.g) || decide (n = h.t)).map fun h => h.eff n), ⟨upd_new hD, [], upd_same, .nil⟩, fun i H2 _ z => ?_, ?_, ?_⟩
  · obtain ⟨o, e⟩ := sq.there
    rw [e, z.1 _ _ e]
  · rintro i x H2 hx ⟨s2, sl2⟩
    obtain ⟨a, ha, rfl⟩ := map_at hx
    obtain ⟨h, eh, hat⟩ := hh.get ha
    have li := (List.getElem?_eq_some_iff.mp eh).1
    have hat2 := hat.same s2
    obtain ⟨dx, pc, pd, h1, _, _⟩ := id hat2
    refine ⟨rfl, _, rfl, _, rfl, a, CH, dx, _, _, rfl, h1, R.cl, R.nG, fh_g _ _ _ _, _, rfl, a, CH, dx, _, _, rfl, h1, R.cl, R.nT, fh_t _ _ _ _, (by show 2 ≤ sizeLine; decide), fun t nt => ?_⟩
    have s3 := upd_new (o := .tup ([V.str h.g, .str h.t])) nt
    have ht : upd H2 t (.tup [V.str h.g, .str h.t]) t = some (.tup [V.str h.g, .str h.t]) := upd_same
    generalize upd H2 t (.tup [V.str h.g, .str h.t]) = H3 at s3 ht ⊢
    · refine ⟨t, [h.g, h.t].map V.str, rfl, .inr (SqT.of ht), rfl, flat_S _, decide (n = h.g) || decide (n = h.t), ?_, ?_⟩
      · rw [inV_S]; simp
      · have sl3 := sl2.same s3
        have step : (hs.take (i + 1)).filter (fun h => decide (n = h.g) || decide (n = h.t)) = (hs.take i).filter (fun h => decide (n = h.g) || decide (n = h.t)) ++ if (decide (n = h.g) || decide (n = h.t)) = true then [h] else [] := by
          rw [take_more eh, List.filter_append, List.filter_cons, List.filter_nil]
        cases c : decide (n = h.g) || decide (n = h.t) with
        | false =>
          rw [c] at step
          refine iteF ⟨s2.trans s3, ?_⟩
          rw [step]
          simpa using sl3
        | true =>
          rw [c] at step
          have h13 := s3 _ _ h1
          refine iteT ⟨_, rfl, a, dx, _, rfl, h13, no_eff _ _ _ _, _, rfl, a, h, n, rfl, hat2.same s3, ok h (List.mem_of_getElem? eh), fun p H4 s4 hp => ?_⟩
          obtain ⟨ps, hd, al⟩ := sl3.same s4
          refine ⟨_, hd, ?_, same_upd hD ((s2.trans s3).trans s4), ps ++ [p], by rw [upd_same, List.map_append]; rfl, ?_⟩
          · have : ps.length ≤ 100 := by
              rw [al.1, List.length_map]
              refine Nat.le_trans (List.length_filter_le _ _) ?_
              rw [List.length_take]; omega
            rw [List.length_map]; omega
          · have nD : ∀ b', Six C H4 b' (h.eff n) → b' ≠ D := fun b' ⟨dy, z⟩ => ne_of z hd (fun z => nomatch z)
            rw [step]
            simp only [if_true, List.map_append, List.map_cons, List.map_nil]
            refine All2.snoc (al.mono fun u v z => ?_) ?_
            · obtain ⟨dy, z⟩ := z
              exact ⟨dy, by rw [upd_ne (ne_of z hd (fun z => nomatch z))]; exact z⟩
            · obtain ⟨dy, z⟩ := hp
              exact ⟨dy, by rw [upd_ne (ne_of z hd (fun z => nomatch z))]; exact z⟩
  · rintro H2 ⟨s2, sl2⟩
    rw [List.length_map, hh.1, List.take_length] at sl2
    refine ⟨D, _, rfl, sl2, ⟨?_, fun x hx => ?_⟩, fun p H3 s3 np hp => q p H3 (s2.trans s3) (s2.free np) hp⟩
    · rw [List.length_map]; exact Nat.le_trans (List.length_filter_le _ _) l
    · obtain ⟨h, hm, rfl⟩ := List.mem_map.mp hx
      exact eff_sm (ok h (List.mem_filter.mp hm).1) n
end
end K5

/-! k05: Swap.__init__. -/
namespace K5
open PySem PySem.Spec PyProof.Rows L2 LamX K1 K18

/-- len(a list or a tuple) -/
def rLenA (K : PySem.W.Frag) : List V → Hp → VK → Prop := fun xs H Q => ∃ p ys, xs = [V.ref p] ∧ (SqL K H p ys ∨ SqT K H p ys) ∧ Q (.int (ys.length : Nat)) H
theorem call_lenA {X : Cx} {K : PySem.W.Frag} (hK : X.K = K) : CallR X (.builtin "len") (rLenA K) := by
  subst hK
  exact fun pins s σ H xs us Q I r ⟨p, ys, e, h, q⟩ => call_len_seq pins s σ H xs us Q I r ⟨p, ys, e, h, q⟩
/-- tuple(x), in any context of the written part K -/
def rTupK (K : PySem.W.Frag) : List V → Hp → VK → Prop := fun xs H Q => ∃ p ys, xs = [V.ref p] ∧ ((SqL K H p ys ∧ ∀ l, H l = none → Q (.ref l) (upd H l (.tup ys))) ∨ (SqT K H p ys ∧ Q (.ref p) H))
theorem call_tupK {X : Cx} {K : PySem.W.Frag} (hK : X.K = K) : CallR X (.type "tuple") (rTupK K) := by
  subst hK
  exact fun pins s σ H xs us Q I r h => call_tuple_of pins s σ H xs us Q I r h
theorem tup_any {K : PySem.W.Frag} {H : Hp} {b : Addr} {xs : List V} {Q : VK} (sq : SqA H b xs) (go : ∀ t H1, Same H H1 → H1 t = some (.tup xs) → Q (.ref t) H1) : rTupK K [.ref b] H Q := by
  refine ⟨b, xs, rfl, ?_⟩
  rcases sq with q | q
  · exact .inl ⟨SqL.of q, fun l nl => go l _ (upd_new nl) upd_same⟩
  · exact .inr ⟨SqT.of q, go b H (Same.refl _) q⟩
/-- x.f = tuple(y) -/
theorem fld_tup {K : PySem.W.Frag} {i : Nat} {x b : Addr} {f : Str} {xs : List V} {D : Ends} {σ : L2.St} {H : Hp} (h0 : σ[0]? = some (some (.ref x))) (hi : σ[i]? = some (some (.ref b))) (sq : SqA H b xs)
    (go : ∀ t H1, Same H H1 → H1 t = some (.tup xs) → ∃ C dx fs, H1 x = some (.ins C dx fs) ∧ Cls K C ∧ NoAttr K C f ∧ fs.length < 1000 ∧ D.nx σ (upd H1 x (.ins C dx (putF f (.ref t) fs)))) :
    sFld K (tVar 0) (tCB (rTupK K) (tCons (tVar i) tNil)) f D σ H := by
  refine ⟨_, hi, ?_⟩
  show rTupK K [.ref b] H (fun y H1 => tVar 0 σ H1 fun x H2 => ∃ a C dx fs, x = .ref a ∧ H2 a = some (.ins C dx fs) ∧ Cls K C ∧ NoAttr K C f ∧ fs.length < 1000 ∧ D.nx σ (upd H2 a (.ins C dx (putF f y fs))))
  refine tup_any sq fun t H1 s h => ?_
  obtain ⟨C, dx, fs, a1, a2, a3, a4, a5⟩ := go t H1 s h
  exact ⟨_, h0, x, C, dx, fs, rfl, a1, a2, a3, a4, a5⟩
/-- the errors' dict, its fields -/
abbrev fTooMany : List (Str × V) := [("most", .int 40), ("what", .str "hands")]
/-- the errors' fields told, all that was there there -/
def spSInit (C CH CS CM : Addr) : Sp := fun vs H Q E => ∃ (x dx sa ha : Addr) (ns : List Str) (as : List Addr) (hs : List Hnd), vs = [.ref x, .ref sa, .ref ha] ∧ H x = some (.ins CS dx []) ∧ SqA H sa (ns.map V.str) ∧ SqA H ha (as.map V.ref) ∧ Hands C CH H as hs ∧ SwOk ns hs ∧ hs.length ≤ 100 ∧
  (hs.length ≤ 40 → ∀ H', Keep x H H' → SwAt C CH CS H' x ns hs → Q .non H') ∧ (40 < hs.length → ∀ d H', ToldF H H' d fTooMany → E (.ref CM) (some d) H')
abbrev HasParties (P : Program) (w : World) (K : PySem.W.Frag) (mg : Str → Option Value) (base : Heap) (C CH : Addr) : Prop := Has P w K mg base CX0 1 "_check_parties" ["hand", "strangers"] (spParties C CH)
abbrev HasNetOf (P : Program) (w : World) (K : PySem.W.Frag) (mg : Str → Option Value) (base : Heap) (C CH : Addr) : Prop := Has P w K mg base CX0 7 "_net_of" ["hands", "name"] (spNetOf C CH)
section
variable {P : Program} {w : World} {K : PySem.W.Frag} {mg : Str → Option Value} {base : Heap} {f C CH CS CW CD CI CT CU CM : Addr} {fd : FuncData}
abbrev nSI : List Str := ["self", "strangers", "hands", "hand", "name"]
theorem scSI : FnScope nSI ["self", "strangers", "hands"] (defScope sSInit) := ⟨rfl, rfl, rfl, by decide +kernel, rfl, by decide +kernel, by decide +kernel⟩
theorem ok_sinit (G : Glob mg) (R : SwapF K CS) (RH : HandF K CH) (gS : mg "Swap" = some (.ref CS)) (gH : mg "HandOver" = some (.ref CH)) (HN : HasNames P w K mg base) (HL : HasListed P w K mg base) (HT : HasTwiceS P w K mg base) (HP : HasParties P w K mg base C CH) (HO : HasNetOf P w K mg base C CH)
    (B : Errs P w K mg base CW CD CI CT CU CM) (F : DefAt K "__init__" "Swap.__init__" sSInit f fd) : FnOk P w K mg base (L2.CX P w) 8 f fd ["self", "strangers", "hands"] (spSInit C CH CS CM) := by
  obtain ⟨fn, fdn, mN, kN, bN, GN⟩ := HN.h
  obtain ⟨fl, fdl, mL, kL, bL, GL⟩ := HL.h
  obtain ⟨ft, fdt, mT, kT, bT, GT⟩ := HT.h
  obtain ⟨fp, fdp, mP, kP_, bP, GP⟩ := HP.h
  obtain ⟨fo, fdo, mO, kO, bO, GO⟩ := HO.h
  obtain ⟨u6, v6⟩ := R.m6
  obtain ⟨u40, v40⟩ := R.m40
  refine okX F scSI (fun vs H Q E ⟨x, dx, sa, ha, ns, as, hs, e, _⟩ => by rw [e]; rfl) (fun cdv A outer s H vs Q E hr ⟨x, dx, sa, ha, ns, as, hs, e, hx, sqs, sqh, hh, ok, l100, qk, qe⟩ => ?_)
  subst e
  have tk : Takes (cxOf (L2.CX P w) P w K mg base nSI "Swap.__init__" (defScope sSInit) f cdv A outer s H E) (fun cls d _ H' => E cls d H') := takes_of rfl rfl rfl rfl
  have r1 := hr.mono (show 1 ≤ 7 by decide)
  have r2 := hr.mono (show 2 ≤ 7 by decide)
  refine ⟨_, pss_cons (ps_if (PW.pt (pw_or (pt_not (pt_val (pe_call GN r2 rfl mN kN bN .nil pass0 (pa_cons (pv 1) pa_nil)))) (pw_or1 (pt_cmpR op_lt (pe_callB (r := rLenA K) (call_lenA rfl) (by rfl) G.len PySem.boot_len (pa_cons (pv 1) pa_nil)) pe_int (nomark _))))) pss_dead pss_nil)
    (pss_cons (ps_if (PW.pt (pw_or (pt_not (pt_val (pe_call GL r1 rfl mL kL bL .nil pass0 (pa_cons (pv 2) pa_nil)))) (pw_or1 (pt_not (pt_val (pe_callB (cr_all rfl) (by rfl) G.all (by decide +kernel) (pa_cons
          (pe_lc (own := [("hand", 3)]) (g := gName 3) (tt := tYes) rfl scSI.nd (pi_seq (pv 2)) (blkOk_by (N := nSI) (sc := defScope sSInit) (by decide +kernel))
            (fun _ _ _ _ _ => pg_name (i := 3) scSI.nd rfl (Or.inl rfl)) (fun _ _ _ _ _ => pts_nil) (fun _ _ _ _ _ => pe_callB (r := rIsi K) call_isi (by rfl) G.isi (by decide +kernel) (pa_cons (pv 3) (pa_cons (pe_glob (v := .ref CH) rfl gH rfl) pa_nil)))) pa_nil))))))) pss_dead pss_nil)
    (pss_cons (ps_expr (pe_call GT r1 rfl mT kT bT .nil pass0 (pa_cons (pv 1) pa_nil)))
    (pss_cons (ps_for (passes_of rfl) rfl (pi_seq (pv 2)) (pg_name (i := 3) scSI.nd rfl (Or.inl rfl)) (pss_one (ps_expr (pe_call GP r1 rfl mP kP_ bP .nil pass0 (pa_cons (pv 3) (pa_cons (pv 1) pa_nil))))))
    (pss_cons (ps_if (pt_cmpR op_gt (pe_callB (r := rLenA K) (call_lenA rfl) (by rfl) G.len PySem.boot_len (pa_cons (pv 1) pa_nil)) (ClX.pe_cval (pe_glob (v := .ref CS) rfl gS rfl)) (nomark _)) pss_dead pss_nil)
    (pss_cons (ps_if (pt_cmpR op_gt (pe_callB (r := rLenA K) (call_lenA rfl) (by rfl) G.len PySem.boot_len (pa_cons (pv 2) pa_nil)) (ClX.pe_cval (pe_glob (v := .ref CS) rfl gS rfl)) (nomark _)) (pss_one (ps_rs B.many rfl tk r2 (pa_cons pe_str (pa_cons (ClX.pe_cval (pe_glob (v := .ref CS) rfl gS rfl)) pa_nil)))) pss_nil)
    (pss_cons (ps_fld (pv 0) (pe_callTy (r := rTupK K) (call_tupK rfl) (by rfl) G.tup (by decide +kernel) (pa_cons (pv 1) pa_nil)) rfl)
    (pss_cons (ps_fld (pv 0) (pe_callTy (r := rTupK K) (call_tupK rfl) (by rfl) G.tup (by decide +kernel) (pa_cons (pv 2) pa_nil)) rfl)
    (pss_one (ps_fld (pv 0) (pe_callTy (r := rTupK K) (call_tupK rfl) (by rfl) G.tup (by decide +kernel) (pa_cons
          (pe_lc (own := [("name", 4)]) (g := gName 4) (tt := tYes) rfl scSI.nd (pi_seq (pv 1)) (blkOk_by (N := nSI) (sc := defScope sSInit) (by decide +kernel))
            (fun _ _ _ _ _ => pg_name (i := 4) scSI.nd rfl (Or.inl rfl)) (fun _ _ _ _ _ => pts_nil) (fun _ _ _ _ _ => pe_call GO hr rfl mO kO bO .nil pass0 (pa_cons (pv 2) (pa_cons (pv 4) pa_nil)))) pa_nil)) rfl))))))))), ?_⟩
  have sz : sizeLine = 16777216 := sizeLine_eq
  have n2 := ok.n2
  have n6 := ok.n6
  refine ⟨_, rfl, sa, ns, rfl, sqs, ok.nm, by omega, fun H1 s1 => ⟨true, rfl, iteF ?_⟩⟩
  refine ⟨_, rfl, sa, _, rfl, (sqs.same s1).imp SqL.of SqT.of, _, _, rfl, rfl, false, congrArg V.bl (decide_eq_false (by rw [List.length_map]; omega)), iteF ?_⟩
  refine ⟨_, rfl, _, rfl, .inr ⟨ha, _, rfl, sqh.same s1, fun H2 s2 => ⟨true, rfl, iteF ?_⟩⟩⟩
  have s02 := s1.trans s2
  refine ⟨_, rfl, ha, rfl, ?_⟩
  refine lc_seqA (sqh.same s02) fun D hD => ⟨fun i H3 => Same H2 H3 ∧ H3 D = some (.lst (List.replicate i (V.bl true))), ⟨upd_new hD, upd_same⟩, fun i H3 _ z => ?_, ?_, ?_⟩
  · obtain ⟨o, e⟩ := (sqh.same s02).there
    rw [e, z.1 _ _ e]
  · rintro i y H3 hy ⟨s3, h3⟩
    obtain ⟨a, ea, rfl⟩ := map_at hy
    obtain ⟨h, eh, hat⟩ := hh.get ea
    have li := (List.getElem?_eq_some_iff.mp eh).1
    obtain ⟨dy, pc, pd, h1, _, _⟩ := hat.same (s02.trans s3)
    exact ⟨rfl, yes_of ⟨_, rfl, _, _, _, _, _, rfl, .own CH, .base (RH.ty h1), RH.me, _, h3, by rw [List.length_replicate]; omega, same_upd hD s3, by rw [rep_snoc, upd_same]⟩⟩
  rintro H3 ⟨s3, h3⟩
  refine ⟨D, List.replicate _ true, rfl, SqL.of (by rw [h3, List.map_replicate]), ?_⟩
  rw [all_true]
  refine ⟨true, rfl, iteF ?_⟩
  have s03 := s02.trans s3
  refine ⟨_, rfl, sa, ns, rfl, sqs.same s03, by omega, ok.nd, fun H4 s4 => ?_⟩
  have s04 := s03.trans s4
  refine ⟨_, rfl, ha, rfl, ?_⟩
  refine for_seqA (sqh.same s04) (fun i σ H5 => Same H4 H5 ∧ ∃ z, σ = [some (.ref x), some (.ref sa), some (.ref ha), z, none]) ⟨Same.refl _, none, rfl⟩ (fun i σ' H' _ z => ?_) ?_ ?_
  · obtain ⟨o, e⟩ := (sqh.same s04).there
    rw [e, z.1 _ _ e]
  · rintro i y σ H5 hy ⟨s5, z, rfl⟩
    obtain ⟨a, ea, rfl⟩ := map_at hy
    obtain ⟨h, eh, hat⟩ := hh.get ea
    obtain ⟨_, g1, g2⟩ := ok.hk h (List.mem_of_getElem? eh)
    exact ⟨_, rfl, _, rfl, a, h, sa, ns, rfl, hat.same (s04.trans s5), sqs.same (s04.trans s5), g1, g2, fun H6 s6 => ⟨s5.trans s6, _, rfl⟩⟩
  rintro σ H5 ⟨s5, z, rfl⟩
  have s05 := s04.trans s5
  have lh : hs.length = (as.map V.ref).length := by rw [List.length_map, hh.1]
  refine ⟨_, rfl, sa, _, rfl, (sqs.same s05).imp SqL.of SqT.of, CS, .type "type", .int 6, u6, rfl, R.cr, v6, _, _, rfl, rfl, false, congrArg V.bl (decide_eq_false (by rw [List.length_map]; omega)), iteF ?_⟩
  refine ⟨_, rfl, ha, _, rfl, (sqh.same s05).imp SqL.of SqT.of, CS, .type "type", .int 40, u40, rfl, R.cr, v40, _, _, rfl, rfl, decide (40 < hs.length), congrArg V.bl (decide_eq_decide.mpr (by rw [lh]; omega)), ?_⟩
  by_cases l40 : 40 < hs.length
  · rw [decide_eq_true l40]
    refine iteT ⟨CS, .type "type", .int 40, u40, rfl, R.cr, v40, ?_⟩
    show rsK CM ["what", "most"] (fun cls d _ H' => E cls d H') [some (V.ref x), some (V.ref sa), some (V.ref ha), z, none] [V.str "hands", .int 40] H5
    exact rs_of (vs := [V.str "hands", .int 40]) rfl (by show 2 ≤ 1000; decide) fun d H' t => qe l40 d H' (t.from s05)
  rw [decide_eq_false l40]
  refine iteF ?_
  have fin := qk (by omega)
  have x5 := s05 _ _ hx
  have sq5 := sqs.same s05
  have sh5 := sqh.same s05
  dsimp only [tNext]
  refine fld_tup (i := 1) rfl rfl sq5 fun ps H6 s6 hps => ⟨CS, dx, [], s6 _ _ x5, R.cl, R.nS, (by show 0 < 1000; decide), ?_⟩
  have x6 := s6 _ _ x5
  have pne : ∀ {p : Addr} {xs : List V}, H6 p = some (.tup xs) → p ≠ x := fun h => ne_of h x6 (fun z => nomatch z)
  have k7 : Keep x H6 (upd H6 x (.ins CS dx (fs1 ps))) := Keep.upd
  have x7 : upd H6 x (.ins CS dx (fs1 ps)) x = some (.ins CS dx (fs1 ps)) := upd_same
  have sh7 := sqa_keep (sh5.same s6) x6 k7
  have hps7 := k7 _ _ (pne hps) hps
  dsimp only
  refine fld_tup (i := 2) rfl rfl sh7 fun ph H8 s8 hph => ⟨CS, dx, fs1 ps, s8 _ _ x7, R.cl, R.nH, (by show 1 < 1000; decide), ?_⟩
  have x8 := s8 _ _ x7
  have kH6 : Keep x H H6 := Same.keep (s05.trans s6)
  have kH8 : Keep x H H8 := (kH6.trans k7).trans (Same.keep s8)
  have p8 : ∀ {p : Addr} {xs : List V}, H8 p = some (.tup xs) → p ≠ x := fun h => ne_of h x8 (fun z => nomatch z)
  have k9 : Keep x H8 (upd H8 x (.ins CS dx (fs2 ps ph))) := Keep.upd
  have x9 : upd H8 x (.ins CS dx (fs2 ps ph)) x = some (.ins CS dx (fs2 ps ph)) := upd_same
  have hps8 := s8 _ _ hps7
  have hps9 := k9 _ _ (p8 hps8) hps8
  have hph9 := k9 _ _ (p8 hph) hph
  have kH9 := kH8.trans k9
  have hh9 := hh.keep hx kH9
  have sa9 := sqa_keep sqs hx kH9
  have sh9 := sqa_keep sqh hx kH9
  dsimp only
  refine ⟨_, rfl, sa, rfl, ?_⟩
  refine lc_seqA sa9 fun D hD => ⟨fun i H3 => Same (upd H8 x (.ins CS dx (fs2 ps ph))) H3 ∧ SixL C H3 D ((ns.take i).map (net hs)), ⟨upd_new hD, [], upd_same, .nil⟩, fun i H3 _ z => ?_, ?_, ?_⟩
  · obtain ⟨o, e⟩ := sa9.there
    exact (z.1 _ _ e).trans e.symm
  · rintro i y H3 hy ⟨s3, sl3⟩
    obtain ⟨n, en, rfl⟩ := map_at hy
    have li := (List.getElem?_eq_some_iff.mp en).1
    refine ⟨rfl, yes_of ⟨_, rfl, _, rfl, ha, as, hs, n, rfl, sh9.same s3, hh9.same s3, fun h m => (ok.hk h m).1, l100, fun p H4 s4 np hp => ?_⟩⟩
    obtain ⟨qs, hd, al⟩ := sl3.same s4
    refine ⟨_, hd, ?_, same_upd hD (s3.trans s4), qs ++ [p], by rw [upd_same, List.map_append]; rfl, ?_⟩
    · rw [List.length_map, al.1, List.length_map, List.length_take]; omega
    · rw [take_more en, List.map_append]
      refine All2.snoc (al.mono fun u v z => ?_) ?_
      · obtain ⟨dy, z⟩ := z
        exact ⟨dy, by rw [upd_ne (ne_of z hd (fun z => nomatch z))]; exact z⟩
      · obtain ⟨dy, z⟩ := hp
        exact ⟨dy, by rw [upd_ne (ne_of z hd (fun z => nomatch z))]; exact z⟩
  rintro H3 ⟨s3, qs, hd, al⟩
  rw [List.length_map, List.take_length] at al
  refine ⟨D, _, rfl, .inl ⟨SqL.of hd, fun pn npn => ?_⟩⟩
  have sn := upd_new (o := .tup (qs.map V.ref)) npn
  have x10 := sn _ _ (s3 _ _ x9)
  have hpn : upd H3 pn (.tup (qs.map V.ref)) pn = some (.tup (qs.map V.ref)) := upd_same
  refine ⟨_, rfl, x, CS, dx, fs2 ps ph, rfl, x10, R.cl, R.nN, (by show 2 < 1000; decide), ?_⟩
  have kf : Keep x (upd H8 x (.ins CS dx (fs2 ps ph))) (upd (upd H3 pn (.tup (qs.map V.ref))) x (.ins CS dx (fsS ps ph pn))) := (Same.keep (s3.trans sn)).trans Keep.upd
  refine fin _ (kH9.trans kf) ⟨dx, ps, ph, pn, as, qs, upd_same, kf _ _ (p8 hps8) hps9, kf _ _ (p8 hph) hph9, hh.keep hx (kH9.trans kf), Keep.upd (p := x) _ _ (ne_of hpn x10 (fun z => nomatch z)) hpn, (al.mono fun u v z => z.same sn).mono fun u v z => ?_⟩
  have ux : u ≠ x := by
    rintro rfl
    obtain ⟨dy, z⟩ := z
    rw [x10] at z
    injection z with z
    injection z with _ _ z
    have b := fsR_top (rT v 6) (rB v 6)
    rw [← z] at b
    unfold fs2 fs1 at b
    rw [lookup_putF, if_neg (by decide +kernel), lookup_putF, if_neg (by decide +kernel)] at b
    cases b
  obtain ⟨dy, z⟩ := z
  exact ⟨dy, Keep.upd (p := x) _ _ ux z⟩
end
end K5

/-! k05: len(o), o != y of own classes. -/
namespace K18
open PySem PySem.Spec PyProof.Rows L2 LamX K1

section
open PySem.W
variable {prog : Program} {w : World} {A : Around} {E : Value → Shared → Prop} {s : Shared} {K : Frag} {x C L f : Addr} {h0 : Heap} {m : Str → Option Value} {ox : Obj} {od : Option Obj} {b tb : Value}
/-- a builtin slot found by the class, called on its instance -/
theorem ifBound_B {M : Model} {name : Str} {id : String} {args : List Value} {Q : Option Value → Shared → Prop} (X : K.In s.heap) (I : InstAt s.heap x ox C od) (hs : findIn K (.ref C) name = some (some (.builtin id))) (hb : ∀ self, bindSpecial (.builtin id) self = pure (.builtin id, [self]))
    (h : wpAny M A (call (.builtin id) (.ref x :: args)) (fun v => Q (some v)) E s) : wpAny M A (callSpecialIfBound? (.ref x) name args) Q E s := by
  simp only [callSpecialIfBound?, bindSpecialIfBound?]
  refine wpAny_holding (wpAny_bind (wpAny_bind (wpAny_bind (I.type.here ((looks_findIn X hs).here ?_)))))
  simp only [hb]
  refine wpAny_bind (wpAny_askSetting (wpAny_ite ?_))
  have fin : wpAny M A (call (.builtin id) ([.ref x] ++ args) >>= fun v => pure (some v)) Q E s := wpAny_bind (wpAny_mono h (fun v s' z => wpAny_pure z) fun _ _ z => z)
  split
  · exact wpAny_bind (wpAny_pure (wpAny_pure (by exact fin)))
  · exact wpAny_tryCatch (wpAny_bind (wpAny_pure (wpAny_pure (by exact fin))))
theorem ne_own {Q : Value → Shared → Prop} (hu : A.units + 1 < cLine) (F : Fr h0 L s.heap m) (X0 : K.In h0) (I : InstAt s.heap x ox C od) (hb : Looks (model prog w) s.heap (typeOf b) tb) (hn : notFirst K C tb = true)
    (hne : findIn K (.ref C) "__ne__" = some (some (.builtin "object.__ne__"))) (hob : subIn K (.ref C) (.type "object") = some true) (hs : findIn K (.ref C) "__eq__" = some (some (.ref f))) (hf : isFn K (.ref f) = true)
    (h : wpAny (model prog w) A.in1 (call (.ref f) [.ref x, b]) (fun v s' => ∃ k, v = .bool k ∧ Q (.bool (!k)) s') E s) : wpAny (model prog w) A (richCompare .NotEq (.ref x) b) Q E s := by
  have X := X0.keeps F.keep
  have one : wpAny (model prog w) A (tryCompare (.ref x) (cmpInfo .NotEq).2.1 b) (fun r s' => ∃ v, r = some v ∧ Q v s') E s := by
    unfold tryCompare
    refine wpAny_bind (ifBound_B (id := "object.__ne__") X I hne PySem.F.slot_tuple_iterator_ne.bind ?_)
    refine wpAny_call (codeAny_call_builtin PySem.F.slot_tuple_iterator_ne.plain PySem.F.cmpEntry_ne (check_slot PySem.F.cmpKind_ne PySem.F.cmpSplit_ne ?_ (PySem.F.cmpArgs_ne _ _) ?_))
    · exact I.type.andThen (looks_subIn X hob)
    · unfold Builtin.«object.__ne__»
      refine wpAny_bind (wpAny_of_eq (a := ((Value.ref x : Value), [b])) (by first | rfl | (simp only [slotArgs]; rfl)) ?_)
      refine wpAny_bind (wpAny_cRoomFor hu ?_)
      refine wpAny_bind (ifBound_K X I hs hf (wpAny_mono h (fun v s' hv => ?_) fun _ _ z => z))
      obtain ⟨k, rfl, q⟩ := hv
      refine wpAny_bind (m := truthy (.bool k)) (wpAny_truthy_bool ?_)
      first | exact wpAny_pure (wpAny_pure ⟨_, rfl, q⟩) | exact wpAny_pure (wpAny_pure (wpAny_pure ⟨_, rfl, q⟩))
  unfold richCompare
  simp only [oneThing_ref]
  refine wpAny_holding (wpAny_bind (wpAny_cRoomFor (by omega) ?_))
  refine wpAny_bind (I.type.here (wpAny_bind (hb.here ?_)))
  split
  · rename_i q
    have e : subIn K tb (.ref C) = some false := by
      rcases Bool.or_eq_true_iff.mp hn with e | e
      · rw [beq_iff_eq.mp e] at q; simp at q
      · exact beq_iff_eq.mp e
    refine wpAny_bind ((looks_subIn X e).here ?_)
    simp only [Bool.false_eq_true, if_false]
    exact wpAny_bind (wpAny_mono one (fun r s' ⟨v, z, hq⟩ => by subst z; exact wpAny_pure hq) fun _ _ z => z)
  · refine wpAny_bind (wpAny_pure ?_)
    simp only [Bool.false_eq_true, if_false]
    exact wpAny_bind (wpAny_mono one (fun r s' ⟨v, z, hq⟩ => by subst z; exact wpAny_pure hq) fun _ _ z => z)
end
section
variable {X : Cx} {CX : CXT} {k : Nat} {C f : Addr} {fd : FuncData} {ps : List Str} {sp : Sp} {E : XK}
/-- x != y by the class's == -/
def rNeO (K : PySem.W.Frag) (C : Addr) (sp : Sp) (E : XK) : R2 := fun x y H Q => ∃ a dx fs t, x = .ref a ∧ H a = some (.ins C dx fs) ∧ TyOf K H y t ∧ PySem.W.notFirst K C t = true ∧ sp [x, y] H (fun v H' => ∃ k, v = .bl k ∧ Q (.bl (!k)) H') E
theorem op_neO (M : OwnM X.K C "__eq__" f) (hne : PySem.W.findIn X.K (.ref C) "__ne__" = some (some (.builtin "object.__ne__"))) (hob : PySem.W.subIn X.K (.ref C) (.type "object") = some true)
    (F : FnOk X.prog X.w X.K X.mg X.base CX k f fd ps sp) (hr : Room (k + 1) X.A) (hb : Binds X.K fd ps []) (hx : Passes CX X.nox E) : OpR X (compareOp .NotEq) (rNeO X.K C sp E) := by
  intro pins s σ H x y v u Q I rx ry h
  obtain ⟨a, dx, fs, t, rfl, ha, ty, hn, hs⟩ := h
  obtain rfl : v = Value.ref a := rx
  obtain ⟨mA, O, _⟩ := ins_get I.hok ha
  obtain ⟨od, J, _⟩ := O.look
  obtain ⟨m, hF⟩ := I.fr
  have hl := F.len _ _ _ _ hs
  have un := hr.un
  refine PySem.W.cmp_ofNotEq (ne_own (by omega) hF I.ok.mod.kin J (ty_look I ry ty) hn hne hob M.at_ M.fn ?_)
  refine wpAny_call (codeAny_mono (F.run X.A.in1 X.stack s H ⟨[.ref a, u], []⟩ [.ref a, u] [.ref a, y] _ E hr.in1 I.env0.in1 (by
    have z := hb s [.ref a, u] I.kIn (by simpa using hl)
    simpa using z) (.cons rfl (.cons ry .nil)) hs) fun r s' hq => ?_)
  cases r with
  | error e => exact False.elim (hx pins σ H s e s' (I.wish _) hq)
  | ok fl =>
    cases fl with
    | ret u =>
      obtain ⟨v, H2, I2, rv, k, rfl, q⟩ := I.after hq
      cases (show u = Value.bool k from rv)
      exact ⟨k, rfl, .bl (!k), H2, I2, rfl, q⟩
    | next => exact False.elim hq
    | brk => exact False.elim hq
    | cont => exact False.elim hq
/-- len(x) -/
theorem call_lenO (M : OwnM X.K C "__len__" f) (F : FnOk X.prog X.w X.K X.mg X.base CX k f fd ps sp) (hr : Room (k + 1) X.A) (hb : Binds X.K fd ps []) (hx : Passes CX X.nox E) :
    CallR X (.builtin "len") (fun xs H Q => ∃ a dx fs, xs = [.ref a] ∧ H a = some (.ins C dx fs) ∧ sp [.ref a] H (fun v H' => ∃ n : Int, v = .int n ∧ 0 ≤ n ∧ n < 2 ^ 63 ∧ Q (.int n) H') E) := by
  intro pins s σ H xs us Q I r h
  obtain ⟨a, dx, fs, rfl, ha, hs⟩ := h
  obtain ⟨u, rfl, ru⟩ := vals1 r
  obtain rfl : u = Value.ref a := ru
  obtain ⟨mA, O, _⟩ := ins_get I.hok ha
  obtain ⟨od, J, _⟩ := O.look
  obtain ⟨m, hF⟩ := I.fr
  have hl := F.len _ _ _ _ hs
  refine PySem.W.len_K hF I.ok.mod.kin J M.at_ M.fn (wpAny_call (codeAny_mono (F.run X.A.in1 X.stack s H ⟨[.ref a], []⟩ [.ref a] [.ref a] _ E hr.in1 I.env0.in1 (by
    have z := hb s [.ref a] I.kIn (by simpa using hl)
    simpa using z) (.cons rfl .nil) hs) fun r s' hq => ?_))
  cases r with
  | error e => exact False.elim (hx pins σ H s e s' (I.wish _) hq)
  | ok fl =>
    cases fl with
    | ret u =>
      obtain ⟨v, H2, I2, rv, n, rfl, n0, n1, q⟩ := I.after hq
      obtain ⟨tk, rfl⟩ := rv
      exact ⟨⟨n0, n1⟩, .int n, H2, I2.tok _, ⟨_, rfl⟩, q⟩
    | next => exact False.elim hq
    | brk => exact False.elim hq
    | cont => exact False.elim hq
/-- x[y], by the class's __getitem__ -/
def rItO (C : Addr) (sp : Sp) (E : XK) : R2 := fun x y H Q => ∃ a dx fs, x = .ref a ∧ H a = some (.ins C dx fs) ∧ sp [x, y] H Q E
theorem pe_itemO {a b : Expr} {pos : Pos} {ta tb : TE} (M : OwnM X.K C "__getitem__" f) (hfi : PySem.W.fnIn X.K f = true) (F : FnOk X.prog X.w X.K X.mg X.base CX k f fd ps sp) (hr : Room (k + 1) X.A) (hb : Binds X.K fd ps []) (hx : Passes CX X.nox E)
    (he : PE X a ta) (hi : PE X b tb) (hsl : ∀ o i, subscripted b true o i = runValue (.builtin "lifetime.subscript" ⟨[o, i], []⟩) := by intro _ _; rfl) : PE X (.Subscript a b pos) (tOp (rItO C sp E) ta tb) := by
  refine ⟨fun pins s σ H Q I h => ?_⟩
  refine Subscript_ (binT he hi I h fun v u s2 x y H2 I2 rx ry q => ?_)
  obtain ⟨p, dx, fs, rfl, hp, hs⟩ := q
  obtain rfl : v = Value.ref p := rx
  obtain ⟨mA, O, _⟩ := ins_get I2.hok hp
  obtain ⟨od, J, _⟩ := O.look
  obtain ⟨m, hF⟩ := I2.fr
  have hl := F.len _ _ _ _ hs
  refine PySem.W.sub_K hF I2.ok.mod.kin J M.at_ hfi M.fn ?_ (hsl _ _)
  refine wpAny_call (codeAny_mono (F.run X.A.in1 X.stack s2 H2 ⟨[.ref p, u], []⟩ [.ref p, u] [.ref p, y] _ E hr.in1 I2.env0.in1 (by
    have z := hb s2 [.ref p, u] I2.kIn (by simpa using hl)
    simpa using z) (.cons rfl (.cons ry .nil)) hs) fun r s' hq => ?_)
  cases r with
  | error e => exact False.elim (hx pins σ H2 s2 e s' (I2.wish _) hq)
  | ok fl =>
    cases fl with
    | ret u => exact I2.after hq
    | next => exact False.elim hq
    | brk => exact False.elim hq
    | cont => exact False.elim hq
end
/-- at it an iterator over the tuple at t, next place i; .. used up -/
def ItT (t it : Addr) (i : Nat) : HO := .ext fun h => h.IsTupleIter it t i
def ItX (it : Addr) : HO := .ext fun h => ∃ o, h.get? it = some o
theorem itT_ok {P : Program} {w : World} {H : Hp} {h : Heap} {t it : Addr} {i : Nat} (e : h.IsTupleIter it t i) : ObjOk P w H h it (ItT t it i) :=
  ⟨e, let ⟨o, a, _⟩ := e; ⟨o, a⟩, fun h1 h2 ⟨o, a, r⟩ k => ⟨o, k _ a, r⟩⟩
theorem itX_ok {P : Program} {w : World} {H : Hp} {h : Heap} {it : Addr} (e : ∃ o, h.get? it = some o) : ObjOk P w H h it (ItX it) :=
  ⟨e, e, fun h1 h2 ⟨o, a⟩ k => ⟨o, k _ a⟩⟩
section
variable {prog : Program} {w : World} {A : Around} {E : Value → Shared → Prop} {s : Shared} {it t : Addr} {i : Nat} {items : Array Value}
theorem call_iterT0 {Q : Value → Shared → Prop} (ht : s.heap.IsTuple t items) (h : Q (.ref s.heap.objs.size) { s with heap := s.heap.push { cls := .type "tuple_iterator", data := .fields #[.ref t, .int 0 0] } }) :
    wpAny (model prog w) A (call (.builtin "iter") [.ref t]) Q E s := by
  refine Calls.call_function_entry (by decide +kernel) (by decide +kernel) PySem.W.kdk_entry_iter (PySem.W.kdk_args_iter _) ?_
  unfold Builtin.«iter»
  refine wpAny_bind (wpAny_of_eq (a := [Value.ref t]) (by first | rfl | kernel_rfl!) ?_)
  show wpAny _ _ (pyIter (.ref t) >>= _) _ _ _
  exact wpAny_bind (wpAny_pyIter_tuple ht (wpAny_pure ⟨_, rfl, h⟩))
theorem stop_made {α : Type} {Q : α → Shared → Prop} (hh : A.handled = none) (h : ∀ (h' : Heap) (e : Addr) (o : Obj), (∀ b o, s.heap.get? b = some o → h'.get? b = some o) → h'.get? e = some o → o.cls = .type "StopIteration" → E (.ref e) { s with heap := h' }) :
    wpAny (model prog w) A (Builtin.SmallTypes.stopIteration : Sem α) Q E s := by
  unfold Builtin.SmallTypes.stopIteration newExc newTuple
  refine wpAny_bind (wpAny_bind (wpAny_newObj_type ?_ (by size_fits)))
  refine wpAny_bind (wpAny_of_eq (a := Value.none) (by first | rfl | (simp only [firstArgMember]; rfl)) (wpAny_newObj_type ?_ (by size_fits)))
  unfold raiseNew
  refine wpAny_bind (wpAny_handled ?_)
  rw [hh]
  exact wpAny_bind (wpAny_pure (wpAny_throw (h _ _ _ (fun b o e => Heap.get?_push_of_some _ (Heap.get?_push_of_some _ e)) (Heap.get?_push_size _ rfl) rfl)))
theorem tnext_end {Q : Option Value → Shared → Prop} (hh : A.handled = none) (hit : s.heap.IsTupleIter it t i) (ht : s.heap.IsTuple t items) (hx : items[i]? = none)
    (hQ : ∀ h', (∃ o, h'.get? it = some o) → (∀ b o, b ≠ it → s.heap.get? b = some o → h'.get? b = some o) → Q none { s with heap := h' }) : wpAny (model prog w) A (pyNext (.ref it)) Q E s := by
  have T := hit.typeIs
  obtain ⟨o, ho, hc, hd⟩ := hit
  obtain ⟨ol, hol, _, nl, hdl⟩ := ht
  unfold pyNext
  refine wpAny_bind (wpAny_attempt (wpAny_callSpecial?_slot (name := Str.ofString "__next__") T PySem.F.slot_tuple_iterator_next (wpAny_call_entry PySem.F.slot_tuple_iterator_next T PySem.F.entry_tuple_iterator_next ?_ (PySem.F.args_tuple_iterator_next_1 _))))
  show wpAny _ _ (field (.ref it) 0 >>= _) _ _ s
  refine wpAny_bind (wpAny_field ho hd (x := .ref t) rfl (wpAny_ite_split (fun z => absurd z Bool.false_ne_true) fun _ => ?_))
  refine wpAny_bind (wpAny_field ho hd (x := .int i 0) rfl (wpAny_bind (wpAny_seqItems hol hdl ?_)))
  simp only [Int.toNat_natCast, hx]
  refine wpAny_bind (wpAny_rule (wpAny_bind (wpAny_setField ho hd (by simp) ?_)))
  refine stop_made (by exact hh) fun h' e oe k he ec => ?_
  refine wpAny_bind (wpAny_isInstance (T := "StopIteration") (b := true) ⟨_, he, ec⟩ isSubtype_stop (wpAny_pure (hQ h' ⟨_, k _ _ (Heap.get?_update_self _ ho (by first | rfl | (rw [Obj.isFreed_of_fields (Obj.data_mapFields hd _)])))⟩ fun b u hb eu => k b u ?_)))
  exact (Heap.get?_update_other s.heap _ (Ne.symm hb)).trans eu
end

section
variable {X : Cx} {pins : List (Addr × Obj)} {σ : L2.St} {H : Hp} {s : Shared} {it t q : Addr} {i : Nat} {xs : List V} {A1 : Around}
/-- iter(t), t a tuple -/
def rIterT (K : PySem.W.Frag) : List V → Hp → VK → Prop := fun xs H Q => ∃ (t : Addr) (zs : List V), xs = [.ref t] ∧ SqT K H t zs ∧ ∀ it, H it = none → Q (.ref it) (upd H it (ItT t it 0))
theorem call_iterT {K : PySem.W.Frag} (hK : X.K = K) : CallR X (.builtin "iter") (rIterT K) := by
  subst hK
  intro pins s σ H xs us Q I r h
  obtain ⟨t, zs, rfl, hq, k⟩ := h
  obtain rfl := Vals.ref1 r
  obtain ⟨its, rv, p, hz⟩ := I.tuple hq
  exact call_iterT0 p ⟨.ref s.heap.objs.size, _, I.laid (t' := s.toks) (fun b u e => Heap.get?_push_of_some _ e) (Nat.le_refl _) (itT_ok ⟨_, Heap.get?_push_size _ rfl, rfl, rfl⟩), rfl, k _ I.fresh⟩
end
end K18

/-! == of nested values that may hold instances of an own class. -/
namespace K2
open PySem PySem.Spec PyProof.Rows L2 K1
open SeqAt AutoSeq1 MeetsSeq MeetsSeq2 MeetsSeq3

/-- code that runs at A for the body X: the same frames, room -/
structure Af (X : Cx) (k : Nat) (A : Around) : Prop where
  fr : A.frames = some X.stack
  room : Room k A
theorem Af.env0 {X : Cx} {k : Nat} {A : Around} {pins : List (Addr × Obj)} {σ : L2.St} {H : Hp} {s : Shared} (t : Af X k A) (I : Inv X pins σ H s) : Env0 X.prog X.w X.K X.mg X.base A X.stack s H := by
  have e := I.env0
  exact ⟨t.fr, e.mod, e.bs, e.bsz, e.funs, e.frf, e.hok, e.bare⟩
theorem Af.in1 {X : Cx} {k : Nat} {A : Around} (t : Af X (k + 1) A) : Af X k A.in1 := ⟨t.fr, t.room.in1⟩
theorem Af.less {X : Cx} {j k : Nat} {A : Around} (t : Af X k A) (h : j ≤ k) : Af X j A := ⟨t.fr, t.room.mono h⟩
theorem run_af {X : Cx} {k : Nat} {A : Around} {f : Addr} {fd : FuncData} {ps : List Str} {sp : Sp} {pins : List (Addr × Obj)} {σ : L2.St} {H : Hp} {s : Shared} {Q : VK} {us : List Value} {vs : List V} {E : Value → Shared → Prop}
    (F : FnOk X.prog X.w X.K X.mg X.base CX0 k f fd ps sp) (t : Af X k A) (hb : Binds X.K fd ps []) (I : Inv X pins σ H s) (r : Vals vs us) (h : sp vs H Q E0) :
    wpAny (model X.prog X.w) A (call (.ref f) us) (EP X pins σ Q) E s := by
  have hl : us.length = ps.length := by rw [← r.length]; exact F.len _ _ _ _ h
  have b1 := hb s us I.kIn (by rw [List.append_nil]; exact hl)
  rw [List.append_nil] at b1
  refine wpAny_call (codeAny_mono (F.run A X.stack s H ⟨us, []⟩ us vs Q E0 t.room (t.env0 I) b1 r h) fun r s' hq => ?_)
  cases r with
  | error e => exact False.elim hq
  | ok fl =>
    cases fl with
    | ret u => exact I.after hq
    | next => exact False.elim hq
    | brk => exact False.elim hq
    | cont => exact False.elim hq

theorem tup_at {X : Cx} {a : Addr} {xs : List V} {pins : List (Addr × Obj)} {σ : L2.St} {s : Shared} {H1 : Hp} (I : Inv X pins σ H1 s) (h : H1 a = some (.tup xs)) :
    ∃ (o : Obj) (its : List Value) (n : Nat), s.heap.get? a = some o ∧ o.cls = .type "tuple" ∧ o.data = .seq its.toArray n ∧ Vals xs its := by
  obtain ⟨_, its, r, o, h1, h2, n, h3⟩ := (show ObjOk X.prog X.w H1 s.heap a (.tup xs) from I.hok a _ h)
  exact ⟨o, its, n, h1, h2, h3, r⟩
theorem own_inst {X : Cx} {a C : Addr} {pins : List (Addr × Obj)} {σ : L2.St} {s : Shared} {H1 : Hp} (I : Inv X pins σ H1 s) {dx : Addr} {fs : List (Str × V)} (h : H1 a = some (.ins C dx fs)) : ∃ ox od, PySem.W.InstAt s.heap a ox C od := by
  obtain ⟨mA, O, _⟩ := ins_get I.hok h
  obtain ⟨od, J, _⟩ := O.look
  exact ⟨_, _, J⟩
/-- v == v', by eqBool and by richCompare, tells b wherever it is reached -/
def EqU (X : Cx) (k : Nat) (H : Hp) (v v' : V) (b : Bool) : Prop :=
  ∀ (A : Around) (E : Value → Shared → Prop) (pins : List (Addr × Obj)) (σ : L2.St) (s : Shared) (H1 : Hp) (u u' : Value) (Q : Bool → Shared → Prop), Af X k A → Inv X pins σ H1 s → Same H H1 → RelV v u → RelV v' u' →
    (∀ s' H2, Inv X pins σ H2 s' → Same H1 H2 → Q b s') → wpAny (model X.prog X.w) A (eqBool u u') Q E s
def RcU (X : Cx) (k : Nat) (H : Hp) (v v' : V) (b : Bool) : Prop :=
  ∀ (A : Around) (E : Value → Shared → Prop) (pins : List (Addr × Obj)) (σ : L2.St) (s : Shared) (H1 : Hp) (u u' : Value) (Q : Value → Shared → Prop), Af X k A → Inv X pins σ H1 s → Same H H1 → RelV v u → RelV v' u' →
    (∀ s' H2, Inv X pins σ H2 s' → Same H1 H2 → Q (.bool b) s') → wpAny (model X.prog X.w) A (richCompare .Eq u u') Q E s
theorem EqU.more {X : Cx} {j k : Nat} {H : Hp} {v v' : V} {b : Bool} (r : EqU X j H v v' b) (h : j ≤ k) : EqU X k H v v' b :=
  fun A E pins σ s H1 u u' Q a I hs r1 r2 hq => r A E pins σ s H1 u u' Q (a.less h) I hs r1 r2 hq
/-- data that the library compares -/
theorem EqU.of_at {X : Cx} {k : Nat} {H : Hp} {v v' : V} {b : Bool} (h : ∀ (A : Around) (s : Shared) (H1 : Hp) (pins : List (Addr × Obj)) (σ : L2.St) (u u' : Value), A.units < cLine → Inv X pins σ H1 s → Same H H1 → RelV v u → RelV v' u' → EqAt A s u u' b) : EqU X k H v v' b :=
  fun A E pins σ s H1 u u' Q a I hs r1 r2 hq => h A s H1 pins σ u u' (by have := a.room.un; omega) I hs r1 r2 X.prog X.w E Q (hq s H1 I (Same.refl _))
/-- two refs: the same one, or as they are compared -/
theorem EqU.of_rc {X : Cx} {k : Nat} {H : Hp} {a c : Addr} {b : Bool} (h0 : a = c → b = true) (h : RcU X k H (.ref a) (.ref c) b) : EqU X k H (.ref a) (.ref c) b := by
  intro A E pins σ s H1 u u' Q at_ I hs r1 r2 hq
  obtain rfl : u = Value.ref a := r1
  obtain rfl : u' = Value.ref c := r2
  unfold eqBool
  refine wpAny_holding ?_
  refine wpAny_ite_split (fun hab => ?_) (fun _ => ?_)
  · have e : a = c := by have := eq_of_beq hab; injection this
    have e := h0 e
    subst e
    exact wpAny_bind (wpAny_rule (wpAny_pure (hq s H1 I (Same.refl _))))
  · exact wpAny_bind (h A E pins σ s H1 _ _ _ at_ I hs rfl rfl fun s' H2 I2 hs2 => wpAny_truthy_bool (hq s' H2 I2 hs2))

/-! ### tuples -/
/-- two lists compared item by item, as far as both go: b tells whether all are equal -/
inductive EqL (X : Cx) (k : Nat) (H : Hp) : List V → List V → Bool → Prop
  | nilL {ys : List V} : EqL X k H [] ys true
  | nilR {xs : List V} : EqL X k H xs [] true
  | no {x y : V} {xs ys : List V} : EqU X k H x y false → EqL X k H (x :: xs) (y :: ys) false
  | yes {x y : V} {xs ys : List V} {b : Bool} : EqU X k H x y true → EqL X k H xs ys b → EqL X k H (x :: xs) (y :: ys) b
section
variable {X : Cx} {H : Hp} {a c : Addr} {xs ys : List V} {k : Nat} {b : Bool}
theorem tup_eq_run (e : EqL X k H xs ys b) (hx : H a = some (.tup xs)) (hy : H c = some (.tup ys)) {A : Around} {pins : List (Addr × Obj)} {σ : L2.St} {s : Shared} {H1 : Hp} {R : Result → Shared → Prop} (at_ : Af X (k + 1) A) (I : Inv X pins σ H1 s) (hs : Same H H1)
    (hR : ∀ s' H2, Inv X pins σ H2 s' → Same H1 H2 → R (.ok (.ret (.bool (b && xs.length == ys.length)))) s') :
    wpAny (model X.prog X.w) A.in1 (Builtin.«tuple.__eq__» ⟨[.ref a, .ref c], []⟩) (fun fin s' => ∃ v, fin = .done (.ret v) ∧ R (.ok (.ret v)) s') (fun e s' => R (.error e) s') s := by
  obtain ⟨oa, its, na, h1, h2, h3, rx⟩ := tup_at I (hs _ _ hx)
  obtain ⟨oc, its2, nc, g1, g2, g3, ry⟩ := tup_at I (hs _ _ hy)
  obtain ⟨cls, dd, data, sl⟩ := oa
  obtain ⟨cls2, dd2, data2, sl2⟩ := oc
  simp only at h2 h3 g2 g3
  subst h2 h3 g2 g3
  have f2 := AutoSeq1.sub_tuple_tuple
  have l1 := rx.length
  have l2 := ry.length
  obtain ⟨hp, g, d, tk, os⟩ := s
  wp_walk using wpAny_loadPart' h1, wpAny_loadPart' g1, wpAny_forIn_list _ (fun rest b' s' => b'.1 = none ∧ ∃ xs' ys' us ws H2, rest = us.zip ws ∧ Vals xs' us ∧ Vals ys' ws ∧ EqL X k H xs' ys' b ∧ Inv X pins σ H2 s' ∧ Same H1 H2) _
  case turn =>
    rintro ⟨y, x⟩ rest b' s' ⟨hb', xs', ys', us, ws, H2, hz, ru, rw, el, I2, hs2⟩
    cases ru with
    | nil => simp at hz
    | @cons p u ps us' q1 q2 =>
      cases rw with
      | nil => simp at hz
      | @cons p' w ps' ws' q3 q4 =>
        rw [List.zip_cons_cons] at hz
        injection hz with hyx hrest
        injection hyx with e1 e2
        subst e1 e2
        cases el with
        | no h =>
          refine wpAny_bind (h A.in1 _ pins σ s' H2 _ _ _ at_.in1 I2 (hs.trans hs2) q1 q3 fun s3 H3 I3 hs3 => ?_)
          have z := hR s3 H3 I3 (hs2.trans hs3)
          rw [Bool.false_and] at z
          wp_walk
          exact ⟨_, rfl, z⟩
        | yes h hr =>
          refine wpAny_bind (h A.in1 _ pins σ s' H2 _ _ _ at_.in1 I2 (hs.trans hs2) q1 q3 fun s3 H3 I3 hs3 => ?_)
          wp_walk
          exact ⟨rfl, _, _, _, _, H3, hrest, q2, q4, hr, I3, hs2.trans hs3⟩
  case fin =>
    rintro ⟨b1, b2⟩ s' ⟨hb', xs', ys', us, ws, H2, hz, ru, rw, el, I2, hs2⟩
    simp only at hb'
    subst hb'
    have z := hR s' H2 I2 hs2
    have eb : b = true := by
      cases ru with
      | nil => cases el <;> rfl
      | cons q1 q2 =>
        cases rw with
        | nil => cases el <;> rfl
        | cons q3 q4 => simp at hz
    rw [eb, Bool.true_and, l1, l2] at z
    wp_walk
    exact ⟨_, rfl, by simpa [Builtin.Tuple.tupleCompareSizes] using z⟩
  case h => exact ⟨rfl, xs, ys, its, its2, H1, by simp, rx, ry, e, I, Same.refl _⟩
theorem RcU.tup (e : EqL X k H xs ys b) (hx : H a = some (.tup xs)) (hy : H c = some (.tup ys)) : RcU X (k + 1) H (.ref a) (.ref c) (b && xs.length == ys.length) := by
  intro A E pins σ s H1 u u' Q at_ I hs r1 r2 hq
  obtain rfl : u = Value.ref a := r1
  obtain rfl : u' = Value.ref c := r2
  obtain ⟨oa, its, na, h1, h2, h3, rx⟩ := tup_at I (hs _ _ hx)
  obtain ⟨oc, its2, nc, g1, g2, g3, ry⟩ := tup_at I (hs _ _ hy)
  have hT : s.TypeIs (.ref a) "tuple" := ⟨oa, h1, h2⟩
  have hT2 : s.TypeIs (.ref c) "tuple" := ⟨oc, g1, g2⟩
  refine wpAny_richCompare_same_room hT hT2 F.slot_tuple_eq ?_ (by have := at_.room.un; omega)
  refine wpAny_call (codeAny_call_builtin F.slot_tuple_eq.plain F.entry_tuple_eq (F.slot_tuple_eq.check _ _ _ _ _ _ _ _ hT (F.args_tuple_eq_2 _ _) ?_))
  refine wpAny_mono (tup_eq_run (R := wants (fun v s' => v ≠ .notImplemented ∧ Q v s') E) e hx hy at_ I hs fun s' H2 I2 hs2 => ⟨(fun x => nomatch x), hq s' H2 I2 hs2⟩) (fun fin s' h' => ?_) fun _ _ x => x
  obtain ⟨v, rfl, hv⟩ := h'
  exact hv
end
/-- an own == of a class, that tells its answer and changes nothing -/
structure EqOf (X : Cx) (C f : Addr) (fd : FuncData) (k : Nat) (sp : Sp) : Prop where
  fn : FnOk X.prog X.w X.K X.mg X.base CX0 k f fd ["self", "other"] sp
  bd : Binds X.K fd ["self", "other"] []
  at_ : OwnM X.K C "__eq__" f
section
variable {X : Cx} {C f a : Addr} {fd : FuncData} {k : Nat} {sp : Sp} {H : Hp} {b : Bool} {y : V}
/-- the own def's run, as an answer of a comparison -/
theorem own_run (R : EqOf X C f fd k sp) {A : Around} {E : Value → Shared → Prop} {pins : List (Addr × Obj)} {σ : L2.St} {s : Shared} {H1 : Hp} {u : Value} {Q : Value → Shared → Prop} (at_ : Af X k A) (I : Inv X pins σ H1 s) (ry : RelV y u)
    (p : sp [.ref a, y] H1 (fun v H2 => v = .bl b ∧ Same H1 H2) E0) (hq : ∀ s' H2, Inv X pins σ H2 s' → Same H1 H2 → Q (.bool b) s') : wpAny (model X.prog X.w) A (call (.ref f) [.ref a, u]) (PySem.W.CmpBack Q) E s := by
  refine thn (run_af (vs := [.ref a, y]) (us := [.ref a, u]) R.fn at_ R.bd I (.cons rfl (.cons ry .nil)) p) fun r s' hr => ?_
  obtain ⟨v, H2, I2, rv, rfl, hs2⟩ := hr
  obtain rfl : r = Value.bool b := rv
  exact hq s' H2 I2 hs2
theorem RcU.ownL (R : EqOf X C f fd k sp) {dx : Addr} {fs : List (Str × V)} {t : Value} (h : H a = some (.ins C dx fs)) (ty : ∀ H1, Same H H1 → TyOf X.K H1 y t) (hn : PySem.W.notFirst X.K C t = true)
    (p : ∀ H1, Same H H1 → sp [.ref a, y] H1 (fun v H2 => v = .bl b ∧ Same H1 H2) E0) : RcU X k H (.ref a) y b := by
  intro A E pins σ s H1 u u' Q at_ I hs r1 r2 hq
  obtain rfl : u = Value.ref a := r1
  obtain ⟨ox, od, J⟩ := own_inst I (hs _ _ h)
  obtain ⟨m, hF⟩ := I.fr
  exact PySem.W.cmp_K (op := .Eq) (by have := at_.room.un; omega) hF I.ok.mod.kin J (ty_look I r2 (ty H1 hs)) hn R.at_.at_ R.at_.fn (own_run R at_ I r2 (p H1 hs) hq)
end
/-- == of two tuples that may hold own things -/
def rTupEq (X : Cx) (k : Nat) : R2 := fun x y H Q => ∃ (a c : Addr) (xs ys : List V) (b : Bool), x = .ref a ∧ y = .ref c ∧ H a = some (.tup xs) ∧ H c = some (.tup ys) ∧ EqL X k H xs ys b ∧ ∀ H', Same H H' → Q (.bl (b && xs.length == ys.length)) H'
theorem op_tupEq {X : Cx} {k : Nat} (hr : Room (k + 1) X.A) : OpR X (compareOp .Eq) (rTupEq X k) := by
  intro pins s σ H x y v u Q I rx ry h
  obtain ⟨a, c, xs, ys, b, rfl, rfl, h1, h2, e, q⟩ := h
  refine PySem.W.cmp_ofEq ?_
  exact RcU.tup e h1 h2 X.A X.xe pins σ s H v u _ ⟨I.ok.frames, hr⟩ I (Same.refl _) rx ry fun s' H2 I2 s2 => ⟨.bl _, H2, I2, rfl, q H2 s2⟩
end K2

/-! k05: methods of swaps. -/
namespace K5
open PySem PySem.Spec PyProof.Rows L2 LamX K1 K18

/-- Swap(e, e') -/
structure MkS (P : Program) (w : World) (K : PySem.W.Frag) (mg : Str → Option Value) (base : Heap) (C CH CS CM : Addr) : Prop where
  g : mg "Swap" = some (.ref CS)
  m : ∃ f fd, Mk K CS f ∧ FnOk P w K mg base (L2.CX P w) 8 f fd ["self", "strangers", "hands"] (spSInit C CH CS CM) ∧ Binds K fd ["self", "strangers", "hands"] []
theorem told_new {H H' : Hp} {x dx C d : Addr} {fs : List (Str × V)} (hx : H x = none) (hd : H dx = none) (ne : dx ≠ x) (t : ToldF (upd (upd H dx (.own x)) x (.ins C dx [])) H' d fs) : ToldF H H' d fs := by
  refine ⟨fun c o e => t.same _ _ ?_, ?_, t.at_⟩
  · rw [upd_ne (ne_of_none e hx), upd_ne (ne_of_none e hd)]
    exact e
  · have n := t.new
    have d1 : d ≠ x := by rintro rfl; rw [upd_same] at n; cases n
    rw [upd_ne d1] at n
    have d2 : d ≠ dx := by rintro rfl; rw [upd_same] at n; cases n
    rwa [upd_ne d2] at n
section
variable {C CH CS CM : Addr} {H : Hp} {sa ha : Addr} {ns : List Str} {as : List Addr} {hs : List Hnd} {Q : VK} {E : XK}
theorem mk_swap (sqs : SqA H sa (ns.map V.str)) (sqh : SqA H ha (as.map V.ref)) (hh : Hands C CH H as hs) (ok : SwOk ns hs) (l100 : hs.length ≤ 100)
    (q : hs.length ≤ 40 → ∀ p H', Same H H' → H p = none → SwAt C CH CS H' p ns hs → Q (.ref p) H') (qe : 40 < hs.length → ∀ d H', ToldF H H' d fTooMany → E (.ref CM) (some d) H') :
    ∀ x dx, H x = none → H dx = none → dx ≠ x → spSInit C CH CS CM [.ref x, .ref sa, .ref ha] (upd (upd H dx (.own x)) x (.ins CS dx [])) (fun v H2 => v = .non ∧ Q (.ref x) H2) E := fun x dx hx hd ne => by
  have s1 : Same H (upd (upd H dx (.own x)) x (.ins CS dx [])) := fun o u e => by rw [upd_ne (ne_of_none e hx), upd_ne (ne_of_none e hd)]; exact e
  exact ⟨x, dx, sa, ha, ns, as, hs, rfl, upd_same, sqs.same s1, sqh.same s1, hh.same s1, ok, l100, fun l H' kp sw => ⟨rfl, q l x H' (fun o u e => kp o u (ne_of_none e hx) (s1 o u e)) hx sw⟩, fun l d H' t => qe l d H' (told_new hx hd ne t)⟩
/-- few enough -/
theorem mk_swap0 (sqs : SqA H sa (ns.map V.str)) (sqh : SqA H ha (as.map V.ref)) (hh : Hands C CH H as hs) (ok : SwOk ns hs) (l40 : hs.length ≤ 40)
    (q : ∀ p H', Same H H' → H p = none → SwAt C CH CS H' p ns hs → Q (.ref p) H') :
    ∀ x dx, H x = none → H dx = none → dx ≠ x → spSInit C CH CS CM [.ref x, .ref sa, .ref ha] (upd (upd H dx (.own x)) x (.ins CS dx [])) (fun v H2 => v = .non ∧ Q (.ref x) H2) E :=
  mk_swap sqs sqh hh ok (by omega) (fun _ => q) fun l => absurd l (by omega)
end
theorem SwOk.back {ns : List Str} {hs : List Hnd} (k : SwOk ns hs) : SwOk ns (hs.map Hnd.back) := ⟨k.n2, k.n6, k.nd, k.nm, fun h m => by
  obtain ⟨g, mg, rfl⟩ := List.mem_map.mp m
  obtain ⟨a, b, c⟩ := k.hk g mg
  exact ⟨a.back, c, b⟩⟩
theorem SwOk.app {ns : List Str} {hs ks : List Hnd} (k : SwOk ns hs) (l : SwOk ns ks) : SwOk ns (hs ++ ks) := ⟨k.n2, k.n6, k.nd, k.nm, fun h m => (List.mem_append.mp m).elim (k.hk h) (l.hk h)⟩
def spLen (C CH CS : Addr) : Sp := fun vs H Q _ => ∃ a ns hs, vs = [.ref a] ∧ SwAt C CH CS H a ns hs ∧ Q (.int (hs.length : Nat)) H
def spIter (C CH CS : Addr) : Sp := fun vs H Q _ => ∃ a ns hs, vs = [.ref a] ∧ SwAt C CH CS H a ns hs ∧ ∀ it t as, H t = some (.tup (as.map V.ref)) → Hands C CH H as hs → H it = none → Q (.ref it) (upd H it (ItT t it 0))
def spItem (C CH CS : Addr) : Sp := fun vs H Q _ => ∃ a ns hs i h, vs = [.ref a, .int i] ∧ SwAt C CH CS H a ns hs ∧ 0 ≤ i ∧ hs[i.toNat]? = some h ∧ ∀ p H', Same H H' → HandAt C CH H' p h → Q (.ref p) H'
def spSEq (C CH CS : Addr) : Sp := fun vs H Q _ => ∃ a b ns hs ms ks, vs = [.ref a, .ref b] ∧ SwAt C CH CS H a ns hs ∧ SwAt C CH CS H b ms ks ∧ (∀ n ∈ ns, Nm n) ∧ (∀ n ∈ ms, Nm n) ∧ ∀ H', Same H H' → Q (.bl (decide (ns = ms) && decide (hs = ks))) H'
def spSNeg (C CH CS : Addr) : Sp := fun vs H Q _ => ∃ a ns hs, vs = [.ref a] ∧ SwAt C CH CS H a ns hs ∧ SwOk ns hs ∧ hs.length ≤ 40 ∧ ∀ p H', Same H H' → H p = none → SwAt C CH CS H' p ns (hs.map Hnd.back) → Q (.ref p) H'
/-- no swap -/
def NotSw (K : PySem.W.Frag) (CS : Addr) (H : Hp) (v : V) : Prop := ∃ t, TyOf K H v t ∧ PySem.W.kitOne K t (.ref CS) = some false
theorem NotSw.same {K : PySem.W.Frag} {CS : Addr} {H H' : Hp} {v : V} (s : Same H H') (h : NotSw K CS H v) : NotSw K CS H' v := let ⟨t, a, b⟩ := h; ⟨t, TyOf.keep s a, b⟩
def spSAdd (K : PySem.W.Frag) (C CH CS CW CU CM : Addr) : Sp := fun vs H Q E => ∃ a v ns hs, vs = [.ref a, v] ∧ SwAt C CH CS H a ns hs ∧ SwOk ns hs ∧ hs.length ≤ 50 ∧
  ((NotSw K CS H v ∧ ∀ d H', ToldF H H' d [("part", .str "other")] → E (.ref CW) (some d) H') ∨
   ∃ b ms ks, v = .ref b ∧ SwAt C CH CS H b ms ks ∧ SwOk ms ks ∧ ks.length ≤ 50 ∧
    (ns ≠ ms → ∀ d H', ToldF H H' d [("what", .str "strangers")] → E (.ref CU) (some d) H') ∧
    (ns = ms → (hs.length + ks.length ≤ 40 → ∀ p H', Same H H' → H p = none → SwAt C CH CS H' p ns (hs ++ ks) → Q (.ref p) H') ∧ (40 < hs.length + ks.length → ∀ d H', ToldF H H' d fTooMany → E (.ref CM) (some d) H')))
/-! texts as data -/
theorem dps_S {K : PySem.W.Frag} {H : Hp} : ∀ xs : List Str, DpAll K H (xs.map V.str) (xs.map PyData.str)
  | [] => .nil
  | x :: xs => .cons (.str x) (dps_S xs)
theorem nm_ok {x : Str} (h : Nm x) : PyData.strOk x = true := by
  unfold PyData.strOk
  rw [← Array.all_toList]
  refine List.all_eq_true.mpr fun c m => decide_eq_true ?_
  rcases h.al c m with e | e
  · have := of_decide_eq_true e; omega
  · have := of_decide_eq_true e; omega
theorem strs_lay : ∀ {xs : List Str}, (∀ x ∈ xs, PyData.strOk x = true) → PyData.canLayAll0 (xs.map PyData.str) = true ∧ PyData.depthAll (xs.map PyData.str) ≤ 2
  | [], _ => by simp [PyData.canLayAll0, PyData.depthAll]
  | x :: xs, h => by
    obtain ⟨a, b⟩ := strs_lay (xs := xs) fun y m => h y (List.mem_cons_of_mem _ m)
    have c := h x (List.mem_cons_self ..)
    simp only [List.map_cons, PyData.canLayAll0, PyData.canLay0, PyData.depthAll, PyData.depth, a, c]
    exact ⟨rfl, by omega⟩
theorem strs_sh {xs : List Str} (h : ∀ x ∈ xs, PyData.strOk x = true) : SeqAt.shaped (.tuple (xs.map PyData.str)) = true ∧ SeqAt.shaped (.list (xs.map PyData.str)) = true := by
  obtain ⟨a, b⟩ := strs_lay h
  constructor
  · show (PyData.canLay0 (.tuple (xs.map PyData.str)) && decide (PyData.depth (.tuple (xs.map PyData.str)) ≤ 64)) = true
    simp only [PyData.canLay0, PyData.depth, a, Bool.true_and]
    exact decide_eq_true (by omega)
  · show (PyData.canLay0 (.list (xs.map PyData.str)) && decide (PyData.depth (.list (xs.map PyData.str)) ≤ 64)) = true
    simp only [PyData.canLay0, PyData.depth, a, Bool.true_and]
    exact decide_eq_true (by omega)
theorem strs_eqv : ∀ (xs ys : List Str), PyData.eqv (.tuple (xs.map PyData.str)) (.tuple (ys.map PyData.str)) = decide (xs = ys) := by
  have key : ∀ xs ys : List Str, PyData.eqvAll (xs.map PyData.str) (ys.map PyData.str) = decide (xs = ys) := by
    intro xs
    induction xs with
    | nil => intro ys; cases ys <;> simp [PyData.eqvAll]
    | cons a r ih =>
      intro ys
      cases ys with
      | nil => simp [PyData.eqvAll]
      | cons b s =>
        simp only [List.map_cons, PyData.eqvAll, PyData.eqv, ih]
        by_cases h : a = b
        · subst h; simp
        · simp [h]
  intro xs ys
  rw [PyData.eqv]
  exact key xs ys
end K5

/-! k05: methods of swaps, proved. -/
namespace K5
open PySem PySem.Spec PyProof.Rows L2 LamX K1 K18

theorem All2.cons {α β : Type} {R : α → β → Prop} {x : α} {y : β} {xs : List α} {ys : List β} (h : All2 R (x :: xs) (y :: ys)) : R x y ∧ All2 R xs ys :=
  ⟨h.2 0 x y rfl rfl, by simpa using h.1, fun i a b ea eb => h.2 (i + 1) a b ea eb⟩
theorem six_upd {C : Addr} {H : Hp} {a D : Addr} {s : Int} {xs : List V} {o : HO} (h : H D = some (.lst xs)) (k : Six C H a s) : Six C (upd H D o) a s := let ⟨dx, z⟩ := k; ⟨dx, by rw [upd_ne (ne_of z h (fun z => nomatch z))]; exact z⟩
theorem hand_upd {C CH : Addr} {H : Hp} {a D : Addr} {k : Hnd} {xs : List V} {o : HO} (h : H D = some (.lst xs)) (z : HandAt C CH H a k) : HandAt C CH (upd H D o) a k :=
  let ⟨dx, pc, pd, z1, z2, z3⟩ := z
  ⟨dx, pc, pd, by rw [upd_ne (ne_of z1 h (fun z => nomatch z))]; exact z1, six_upd h z2, six_upd h z3⟩
theorem Six.inj {C : Addr} {H : Hp} {a : Addr} {s t : Int} (h : Six C H a s) (k : Six C H a t) : s = t := by
  obtain ⟨dx, h⟩ := h
  obtain ⟨dy, k⟩ := k
  rw [h] at k
  injection k with k
  injection k with _ _ k
  have e1 := fsR_top (rT s 6) (rB s 6)
  have e2 := fsR_bottom (rT s 6) (rB s 6)
  rw [k, fsR_top] at e1
  rw [k, fsR_bottom] at e2
  exact (six_inj s t).mp ⟨(V.int.inj (Option.some.inj e1)).symm, (V.int.inj (Option.some.inj e2)).symm⟩
theorem HandAt.inj {C CH : Addr} {H : Hp} {a : Addr} {h k : Hnd} (x : HandAt C CH H a h) (y : HandAt C CH H a k) : h = k := by
  obtain ⟨dx, pc, pd, h1, h2, h3⟩ := x
  obtain ⟨dy, qc, qd, k1, k2, k3⟩ := y
  rw [h1] at k1
  injection k1 with k1
  injection k1 with _ _ k1
  have e1 := fh_g h.g h.t pc pd
  have e2 := fh_t h.g h.t pc pd
  have e3 := fh_c h.g h.t pc pd
  have e4 := fh_d h.g h.t pc pd
  rw [k1, fh_g] at e1
  rw [k1, fh_t] at e2
  rw [k1, fh_c] at e3
  rw [k1, fh_d] at e4
  obtain rfl := V.ref.inj (Option.some.inj e3)
  obtain rfl := V.ref.inj (Option.some.inj e4)
  have c := h2.inj k2
  have d := h3.inj k3
  have g := V.str.inj (Option.some.inj e1)
  have t := V.str.inj (Option.some.inj e2)
  cases h; cases k
  simp_all
section
variable {P : Program} {w : World} {K : PySem.W.Frag} {mg : Str → Option Value} {base : Heap} {f C CH CS CW CD CI CT CU CM : Addr} {fd : FuncData}
/-- == of hand-overs' lists -/
theorem hands_eq {X : Cx} {k : Nat} {H : Hp} {fe : Addr} {fde : FuncData} (R : K2.EqOf X CH fe fde k (spHEq C CH)) (RH : HandF X.K CH) (nf : PySem.W.notFirst X.K CH (.ref CH) = true) :
    ∀ {as bs : List Addr} {hs ks : List Hnd}, Hands C CH H as hs → Hands C CH H bs ks → ∃ b, K2.EqL X k H (as.map V.ref) (bs.map V.ref) b ∧ (b && (as.map V.ref).length == (bs.map V.ref).length) = decide (hs = ks) := by
  intro as
  induction as with
  | nil =>
    intro bs hs ks h1 h2
    cases hs with
    | cons => have := h1.1; simp at this
    | nil =>
      refine ⟨true, .nilL, ?_⟩
      cases bs with
      | nil => cases ks with
        | nil => simp
        | cons => have := h2.1; simp at this
      | cons => cases ks with
        | nil => have := h2.1; simp at this
        | cons => simp
  | cons a as ih =>
    intro bs hs ks h1 h2
    cases hs with
    | nil => have := h1.1; simp at this
    | cons h hs =>
      cases bs with
      | nil =>
        cases ks with
        | nil => exact ⟨true, .nilR, by simp⟩
        | cons => have := h2.1; simp at this
      | cons b bs =>
        cases ks with
        | nil => have := h2.1; simp at this
        | cons m ks =>
          obtain ⟨x1, x2⟩ := h1.cons
          obtain ⟨y1, y2⟩ := h2.cons
          obtain ⟨bb, e, eb⟩ := ih x2 y2
          have run : K2.EqU X k H (.ref a) (.ref b) (decide (h = m)) := by
            obtain ⟨dx, pc, pd, z1, _, _⟩ := id x1
            refine K2.EqU.of_rc (fun e => ?_) (K2.RcU.ownL R (t := .ref CH) z1 (fun H1 s1 => ?_) nf fun H1 s1 => ⟨a, b, h, m, rfl, x1.same s1, y1.same s1, rfl, Same.refl _⟩)
            · subst e; exact decide_eq_true (x1.inj y1)
            · obtain ⟨dy, qc, qd, w1, _, _⟩ := y1
              exact RH.ty (s1 _ _ w1)
          by_cases hm : h = m
          · rw [decide_eq_true hm] at run
            refine ⟨bb, .yes run e, ?_⟩
            subst hm
            simpa using eb
          · rw [decide_eq_false hm] at run
            refine ⟨false, .no run, ?_⟩
            simp [hm]
abbrev HasHnd (P : Program) (w : World) (K : PySem.W.Frag) (mg : Str → Option Value) (base : Heap) (CI : Addr) : Prop := Has P w K mg base (L2.CX P w) 4 "check_hand" ["many", "value"] (spHand K CI)
theorem scLen : FnScope ["self"] ["self"] (defScope sSLen) := ⟨rfl, rfl, rfl, by decide +kernel, rfl, by decide +kernel, by decide +kernel⟩
theorem ok_slen (G : Glob mg) (R : SwapF K CS) (F : DefAt K "__len__" "Swap.__len__" sSLen f fd) : FnOk P w K mg base CX0 1 f fd ["self"] (spLen C CH CS) := by
  refine okN F scLen (fun vs H Q E ⟨a, ns, hs, e, _⟩ => by rw [e]; rfl) (fun cdv A outer s H vs Q E hr ⟨a, ns, hs, e, ha, q⟩ => ?_)
  subst e
  refine ⟨_, pss_one (ps_ret (pe_callB (r := rLenA K) (call_lenA rfl) (by rfl) G.len PySem.boot_len (pa_cons (pe_fld (pv 0) rfl) pa_nil))), ?_⟩
  obtain ⟨dx, ps, ph, pn, as, nas, h1, h2, h3, h4, h5, h6⟩ := ha
  refine ⟨_, rfl, a, CS, dx, _, _, rfl, h1, R.cl, R.nH, fs_h _ _ _, ph, _, rfl, .inr (SqT.of h3), ?_⟩
  rw [List.length_map, h4.1]
  exact q
theorem scIter : FnScope ["self"] ["self"] (defScope sSIter) := ⟨rfl, rfl, rfl, by decide +kernel, rfl, by decide +kernel, by decide +kernel⟩
theorem ok_siter (G : Glob mg) (R : SwapF K CS) (F : DefAt K "__iter__" "Swap.__iter__" sSIter f fd) : FnOk P w K mg base CX0 1 f fd ["self"] (spIter C CH CS) := by
  refine okN F scIter (fun vs H Q E ⟨a, ns, hs, e, _⟩ => by rw [e]; rfl) (fun cdv A outer s H vs Q E hr ⟨a, ns, hs, e, ha, q⟩ => ?_)
  subst e
  refine ⟨_, pss_one (ps_ret (pe_callB (call_iterT rfl) (by rfl) G.iter (by decide +kernel) (pa_cons (pe_fld (pv 0) rfl) pa_nil))), ?_⟩
  obtain ⟨dx, ps, ph, pn, as, nas, h1, h2, h3, h4, h5, h6⟩ := ha
  exact ⟨_, rfl, a, CS, dx, _, _, rfl, h1, R.cl, R.nH, fs_h _ _ _, ph, _, rfl, SqT.of h3, fun it nit => q it ph as h3 h4 nit⟩
theorem scItem : FnScope ["self", "at"] ["self", "at"] (defScope sSItem) := ⟨rfl, rfl, rfl, by decide +kernel, rfl, by decide +kernel, by decide +kernel⟩
theorem ok_sitem (G : Glob mg) (R : SwapF K CS) (HH : HasHnd P w K mg base CI) (F : DefAt K "__getitem__" "Swap.__getitem__" sSItem f fd) : FnOk P w K mg base CX0 5 f fd ["self", "at"] (spItem C CH CS) := by
  obtain ⟨fc, fdc, mC, kC, bC, GC⟩ := HH.h
  refine okN F scItem (fun vs H Q E ⟨a, ns, hs, i, h, e, _⟩ => by rw [e]; rfl) (fun cdv A outer s H vs Q E hr ⟨a, ns, hs, i, h, e, ha, i0, hi, q⟩ => ?_)
  subst e
  refine ⟨_, pss_cons (ps_expr (pe_call (E := E0) GC hr rfl mC kC bC .nil passL (pa_cons (pe_callB (r := rLenA K) (call_lenA rfl) (by rfl) G.len PySem.boot_len (pa_cons (pe_fld (pv 0) rfl) pa_nil)) (pa_cons (pv 1) pa_nil))))
    (pss_one (ps_ret (pe_ix ix_tup (pe_fld (pv 0) rfl) (pv 1) (fun _ _ => rfl)))), ?_⟩
  obtain ⟨dx, ps, ph, pn, as, nas, h1, h2, h3, h4, h5, h6⟩ := ha
  obtain ⟨p, hp, hat⟩ := h4.getR hi
  have li := (List.getElem?_eq_some_iff.mp hp).1
  refine ⟨_, rfl, a, CS, dx, _, _, rfl, h1, R.cl, R.nH, fs_h _ _ _, ph, _, rfl, .inr (SqT.of h3), _, rfl, _, _, rfl, .inl ⟨i, rfl, ⟨i0, by rw [List.length_map]; omega⟩, fun H1 s1 => ?_⟩⟩
  refine ⟨_, rfl, a, CS, dx, _, _, rfl, s1 _ _ h1, R.cl, R.nH, fs_h _ _ _, _, rfl, ph, as.map V.ref, i, .ref p, rfl, rfl, SqT.of (s1 _ _ h3), ?_, q p H1 s1 (hat.same s1)⟩
  have z := atI_nat (xs := as.map V.ref) (j := i.toNat) (v := .ref p) (by rw [List.getElem?_map, hp]; rfl)
  rwa [Int.toNat_of_nonneg i0] at z
theorem scSEq : FnScope ["self", "other"] ["self", "other"] (defScope sSEq) := ⟨rfl, rfl, rfl, by decide +kernel, rfl, by decide +kernel, by decide +kernel⟩
theorem ok_seq (G : Glob mg) (R : SwapF K CS) (RH : HandF K CH) (gS : mg "Swap" = some (.ref CS)) (OE : EqO P w K mg base CH 2 (spHEq C CH)) (F : DefAt K "__eq__" "Swap.__eq__" sSEq f fd) : FnOk P w K mg base CX0 4 f fd ["self", "other"] (spSEq C CH CS) := by
  obtain ⟨fe, fde, ME, bE, GE⟩ := OE.o.h
  refine okN F scSEq (fun vs H Q E ⟨a, b, ns, hs, ms, ks, e, _⟩ => by rw [e]; rfl) (fun cdv A outer s H vs Q E hr ⟨a, b, ns, hs, ms, ks, e, ha, hb, n1, n2, q⟩ => ?_)
  subst e
  have hu64 : (A.deeper (envOfC "Swap.__eq__" (defScope sSEq) s.heap.objs.size f cdv)).units + 64 < cLine := by have := hr.un; omega
  refine ⟨_, pss_one (ps_ret (pe_and (pe_callB call_isi (by rfl) G.isi (by decide +kernel) (pa_cons (pv 1) (pa_cons (pe_glob (v := .ref CS) rfl gS rfl) pa_nil)))
    (pe_and (pe_cmpR (op_eqD hu64) (pe_fld (pv 0) rfl) (pe_fld (pv 1) rfl) (nomark _)) (pe_one (pe_cmpR (K2.op_tupEq (k := 2) hr) (pe_fld (pv 0) rfl) (pe_fld (pv 1) rfl) (nomark _)))))), ?_⟩
  obtain ⟨dx, ps, ph, pn, as, nas, h1, h2, h3, h4, h5, h6⟩ := ha
  obtain ⟨dy, qs, qh, qn, bs, nbs, k1, k2, k3, k4, k5, k6⟩ := hb
  refine ⟨_, rfl, _, _, _, _, _, rfl, .own CS, .base (R.ty k1), R.me, true, rfl, iteT ?_⟩
  have o1 := fun x m => nm_ok (n1 x m)
  have o2 := fun x m => nm_ok (n2 x m)
  refine ⟨_, rfl, a, CS, dx, _, _, rfl, h1, R.cl, R.nS, fs_s _ _ _, _, rfl, b, CS, dy, _, _, rfl, k1, R.cl, R.nS, fs_s _ _ _, .tuple (ns.map PyData.str), .tuple (ms.map PyData.str), .tup (SqT.of h2) (dps_S ns), .tup (SqT.of k2) (dps_S ms), (strs_sh o1).1, (strs_sh o2).1, decide (ns = ms), by rw [strs_eqv], ?_⟩
  by_cases en : ns = ms
  · rw [decide_eq_true en] at q ⊢
    obtain ⟨bb, el, eb⟩ := hands_eq (X := (cxOf CX0 P w K mg base ["self", "other"] "Swap.__eq__" (defScope sSEq) f cdv A outer s H E).nox) ⟨GE, bE, ME⟩ RH OE.nf h4 k4
    refine iteT ⟨_, rfl, a, CS, dx, _, _, rfl, h1, R.cl, R.nH, fs_h _ _ _, _, rfl, b, CS, dy, _, _, rfl, k1, R.cl, R.nH, fs_h _ _ _, ph, qh, _, _, bb, rfl, rfl, h3, k3, el, fun H' s' => ?_⟩
    rw [eb]
    rw [Bool.true_and] at q
    exact q H' s'
  · rw [decide_eq_false en] at q ⊢
    exact iteF (q H (Same.refl _))
/-- x.returned() -/
structure RetM (P : Program) (w : World) (K : PySem.W.Frag) (mg : Str → Option Value) (base : Heap) (C CH : Addr) : Prop where
  h : ∃ f fd, Meth K CH "returned" f ∧ Binds K fd ["self"] [] ∧ FnOk P w K mg base CX0 9 f fd ["self"] (spRet C CH)
theorem no_ret (g t : Str) (c d : Addr) : (fsH g t c d).lookup ("returned" : Str) = none := fh_no _ _ _ _ (by decide +kernel) (by decide +kernel) (by decide +kernel) (by decide +kernel)
abbrev nSN : List Str := ["self", "hand"]
theorem scSNeg : FnScope nSN ["self"] (defScope sSNeg) := ⟨rfl, rfl, rfl, by decide +kernel, rfl, by decide +kernel, by decide +kernel⟩
theorem ok_sneg (R : SwapF K CS) (RH : HandF K CH) (RM : RetM P w K mg base C CH) (M : MkS P w K mg base C CH CS CM) (F : DefAt K "__neg__" "Swap.__neg__" sSNeg f fd) : FnOk P w K mg base CX0 11 f fd ["self"] (spSNeg C CH CS) := by
  obtain ⟨fr, fdr, Mr, bR, GR⟩ := RM.h
  obtain ⟨fm, fdm, Mm, GM, bM⟩ := M.m
  refine okN F scSNeg (fun vs H Q E ⟨a, ns, hs, e, _⟩ => by rw [e]; rfl) (fun cdv A outer s H vs Q E hr ⟨a, ns, hs, e, ha, ok, l40, q⟩ => ?_)
  subst e
  refine ⟨_, pss_one (ps_ret (pe_make (E := E0) Mm GM (hr.mono (by decide)) rfl M.g bM .nil passL (pa_cons (pe_fld (pv 0) rfl) (pa_cons
    (pe_lc (own := [("hand", 1)]) (g := gName 1) (tt := tYes) rfl scSNeg.nd (pi_tup (pe_fld (pv 0) rfl)) (blkOk_by (N := nSN) (sc := defScope sSNeg) (by decide +kernel))
      (fun _ _ _ _ _ => pg_name (i := 1) scSNeg.nd rfl (Or.inl rfl)) (fun _ _ _ _ _ => pts_nil) (fun _ _ _ _ _ => pe_meth0 (pv 1) RH.cl Mr GR (hr.mono (by decide)) bR .nil pass0)) pa_nil)))), ?_⟩
  have sz : sizeLine = 16777216 := sizeLine_eq
  obtain ⟨dx, ps, ph, pn, as, nas, h1, h2, h3, h4, h5, h6⟩ := ha
  refine ⟨_, rfl, a, CS, dx, _, _, rfl, h1, R.cl, R.nS, fs_s _ _ _, _, rfl, a, CS, dx, _, _, rfl, h1, R.cl, R.nH, fs_h _ _ _, ph, rfl, ⟨_, SqT.of h3⟩, fun D hD => ?_⟩
  refine lc_tup (K := K) (a := ph) (xs := as.map V.ref) (fun i H2 => Same H H2 ∧ ∃ bs, H2 D = some (.lst (bs.map V.ref)) ∧ Hands C CH H2 bs ((hs.take i).map Hnd.back)) ⟨upd_new hD, [], upd_same, .nil⟩ (fun i H2 _ z => SqT.of (z.1 _ _ h3)) ?_ ?_
  · rintro i x H2 hx ⟨s2, bs, hb, al⟩
    obtain ⟨p, hp, rfl⟩ := map_at hx
    obtain ⟨h, eh, hat⟩ := h4.get hp
    have hat2 := hat.same s2
    obtain ⟨dy, pc, pd, z1, _, _⟩ := id hat2
    refine ⟨rfl, yes_of ⟨_, rfl, p, dy, _, rfl, z1, no_ret _ _ _ _, p, h, rfl, hat2, (ok.hk h (List.mem_of_getElem? eh)).1, fun p' H3 s3 np hp' => ?_⟩⟩
    have hb3 := s3 _ _ hb
    refine ⟨_, hb3, ?_, same_upd hD (s2.trans s3), bs ++ [p'], by rw [upd_same, List.map_append]; rfl, ?_⟩
    · rw [List.length_map, al.1, List.length_map, List.length_take]; omega
    · rw [take_more eh, List.map_append]
      exact All2.snoc ((al.same s3).mono fun u v z => hand_upd hb3 z) (hand_upd hb3 hp')
  · rintro H2 ⟨s2, bs, hb, al⟩
    rw [List.length_map, h4.1, List.take_length] at al
    refine mk_swap0 (.inr (s2 _ _ h2)) (.inl hb) al ok.back (by rw [List.length_map]; exact l40) fun p H3 s3 np sw => q p H3 (s2.trans s3) (s2.free np) sw
end
end K5

/-! k05: + of swaps; check_swap, done_set, sums, handed_back, portion. -/
namespace K5
open PySem PySem.Spec PyProof.Rows L2 LamX K1 K18

def spCheck (K : PySem.W.Frag) (C CH CS CW : Addr) : Sp := fun vs H Q E => ∃ v, vs = [v] ∧ ((∃ a ns hs, v = .ref a ∧ SwAt C CH CS H a ns hs ∧ Q .non H) ∨ (NotSw K CS H v ∧ ∀ d H', ToldF H H' d [("part", .str "swap")] → E (.ref CW) (some d) H'))
/-- done_set: no swap; or what done_told tells -/
def spDoneSet (K : PySem.W.Frag) (C CH CS CW CD CI CT : Addr) : Sp := fun vs H Q E => ∃ u v, vs = [u, v] ∧ ((NotSw K CS H u ∧ ∀ d H', ToldF H H' d [("part", .str "swap")] → E (.ref CW) (some d) H') ∨
  ∃ a ns hs, u = .ref a ∧ SwAt C CH CS H a ns hs ∧ hs.length ≤ 1000 ∧ HandsW K CD CI CT (hs.length : Nat) v (.str "done") H E fun ms b => ∀ (ks : List Int) (t : Addr) (H' : Hp), ks.Perm ms → ks.Pairwise (· ≤ ·) → Same H H' → H' t = some (.tup (ks.map V.int)) → Q (.ref t) H')
def spBack (K : PySem.W.Frag) (C CH CS CW : Addr) : Sp := fun vs H Q E => ∃ v, vs = [v] ∧ ((∃ a ns hs, v = .ref a ∧ SwAt C CH CS H a ns hs ∧ SwOk ns hs ∧ hs.length ≤ 40 ∧ ∀ p H', Same H H' → H p = none → SwAt C CH CS H' p ns (hs.map Hnd.back) → Q (.ref p) H') ∨
  (NotSw K CS H v ∧ ∀ d H', ToldF H H' d [("part", .str "swap")] → E (.ref CW) (some d) H'))
section
variable {P : Program} {w : World} {K : PySem.W.Frag} {mg : Str → Option Value} {base : Heap} {f C CH CS CW CD CI CT CU CM : Addr} {fd : FuncData}
theorem scSAdd : FnScope ["self", "other"] ["self", "other"] (defScope sSAdd) := ⟨rfl, rfl, rfl, by decide +kernel, rfl, by decide +kernel, by decide +kernel⟩
theorem ok_sadd (G : Glob mg) (R : SwapF K CS) (M : MkS P w K mg base C CH CS CM) (B : Errs P w K mg base CW CD CI CT CU CM) (F : DefAt K "__add__" "Swap.__add__" sSAdd f fd) : FnOk P w K mg base (L2.CX P w) 10 f fd ["self", "other"] (spSAdd K C CH CS CW CU CM) := by
  obtain ⟨fm, fdm, Mm, GM, bM⟩ := M.m
  refine okX F scSAdd (fun vs H Q E ⟨a, v, ns, hs, e, _⟩ => by rw [e]; rfl) (fun cdv A outer s H vs Q E hr ⟨a, v, ns, hs, e, ha, ok, l50, h⟩ => ?_)
  subst e
  have hu64 : (A.deeper (envOfC "Swap.__add__" (defScope sSAdd) s.heap.objs.size f cdv)).units + 64 < cLine := by have := hr.un; omega
  have tk : Takes (cxOf (L2.CX P w) P w K mg base ["self", "other"] "Swap.__add__" (defScope sSAdd) f cdv A outer s H E) (fun cls d _ H' => E cls d H') := takes_of rfl rfl rfl rfl
  have ps := passes_call tk (E := E) fun _ _ _ _ z => z
  have r2 := hr.mono (show 2 ≤ 9 by decide)
  refine ⟨_, pss_cons (ps_if (pt_not (pt_val (pe_callB call_isi (by rfl) G.isi (by decide +kernel) (pa_cons (pv 1) (pa_cons (pe_glob (v := .ref CS) rfl M.g rfl) pa_nil))))) (pss_one (ps_rs B.swap rfl tk r2 (pa_cons pe_str pa_nil))) pss_nil)
    (pss_cons (ps_if (pt_cmpR (op_neD hu64) (pe_fld (pv 0) rfl) (pe_fld (pv 1) rfl) (nomark _)) (pss_one (ps_rs B.unlike rfl tk r2 (pa_cons pe_str pa_nil))) pss_nil)
    (pss_one (ps_ret (pe_make (E := E) Mm GM hr rfl M.g bM .nil ps (pa_cons (pe_fld (pv 0) rfl) (pa_cons (pe_op op_catA (pe_fld (pv 0) rfl) (pe_fld (pv 1) rfl)) pa_nil)))))), ?_⟩
  have sz : sizeLine = 16777216 := sizeLine_eq
  rcases h with ⟨⟨t, ty, k1⟩, q⟩ | ⟨b, ms, ks, rfl, hb, ok2, l50', qu, qk⟩
  · exact ⟨_, rfl, _, _, _, _, _, rfl, .own CS, .base ty, k1, false, rfl, iteT (rs_c q)⟩
  obtain ⟨dx, pp, ph, pn, as, nas, h1, h2, h3, h4, h5, h6⟩ := ha
  obtain ⟨dy, qs, qh, qn, bs, nbs, k1, k2, k3, k4, k5, k6⟩ := hb
  refine ⟨_, rfl, _, _, _, _, _, rfl, .own CS, .base (R.ty k1), R.me, true, rfl, iteF ?_⟩
  have o1 := fun x m => nm_ok (ok.nm x m)
  have o2 := fun x m => nm_ok (ok2.nm x m)
  refine ⟨_, rfl, a, CS, dx, _, _, rfl, h1, R.cl, R.nS, fs_s _ _ _, _, rfl, b, CS, dy, _, _, rfl, k1, R.cl, R.nS, fs_s _ _ _, .tuple (ns.map PyData.str), .tuple (ms.map PyData.str), .tup (SqT.of h2) (dps_S ns), .tup (SqT.of k2) (dps_S ms), (strs_sh o1).1, (strs_sh o2).1, !decide (ns = ms), by rw [strs_eqv], ?_⟩
  by_cases en : ns = ms
  · rw [decide_eq_true en]
    obtain ⟨q, qe⟩ := qk en
    subst en
    refine iteF ⟨_, rfl, a, CS, dx, _, _, rfl, h1, R.cl, R.nS, fs_s _ _ _, _, rfl, a, CS, dx, _, _, rfl, h1, R.cl, R.nH, fs_h _ _ _, _, rfl, b, CS, dy, _, _, rfl, k1, R.cl, R.nH, fs_h _ _ _, ?_⟩
    have fin : ∀ (p : Addr) (H1 : Hp), Same H H1 → H1 p = some (.tup ((as ++ bs).map V.ref)) → ∀ x dx, H1 x = none → H1 dx = none → dx ≠ x → spSInit C CH CS CM [.ref x, .ref pp, .ref p] (upd (upd H1 dx (.own x)) x (.ins CS dx [])) (fun v H2 => v = .non ∧ Q (.ref x) H2) E := fun p H1 s1 hp =>
      mk_swap (.inr (s1 _ _ h2)) (.inr hp) ((h4.same s1).app (k4.same s1)) (ok.app ok2) (by rw [List.length_append]; omega) (fun l p H2 s2 np sw => q (by rwa [List.length_append] at l) p H2 (s1.trans s2) (s1.free np) sw) fun l d H' t => qe (by rwa [List.length_append] at l) d H' (t.from s1)
    have la : as.length ≤ 50 := by rw [h4.1]; exact l50
    have lb : bs.length ≤ 50 := by rw [k4.1]; exact l50'
    refine ⟨ph, qh, as.map V.ref, bs.map V.ref, rfl, rfl, SqT.of h3, SqT.of k3, by rw [List.length_map, List.length_map]; omega, ?_⟩
    refine ⟨fun e => ?_, fun _ e => ?_, fun _ _ p np => ?_⟩
    · have z : (as ++ bs).map V.ref = bs.map V.ref := by rw [List.map_append, e, List.nil_append]
      exact fin qh H (Same.refl _) (by rw [z]; exact k3)
    · have z : (as ++ bs).map V.ref = as.map V.ref := by rw [List.map_append, e, List.append_nil]
      exact fin ph H (Same.refl _) (by rw [z]; exact h3)
    · exact fin p _ (upd_new np) (by rw [upd_same, List.map_append])
  · rw [decide_eq_false en]
    exact iteT (rs_c (qu en))
theorem scCheck : FnScope ["swap"] ["swap"] (defScope sCheckSwap) := ⟨rfl, rfl, rfl, by decide +kernel, rfl, by decide +kernel, by decide +kernel⟩
theorem ok_check (G : Glob mg) (R : SwapF K CS) (gS : mg "Swap" = some (.ref CS)) (B : Errs P w K mg base CW CD CI CT CU CM) (F : DefAt K "check_swap" "check_swap" sCheckSwap f fd) : FnOk P w K mg base (L2.CX P w) 3 f fd ["swap"] (spCheck K C CH CS CW) := by
  refine okX F scCheck (fun vs H Q E ⟨v, e, _⟩ => by rw [e]; rfl) (fun cdv A outer s H vs Q E hr ⟨v, e, h⟩ => ?_)
  subst e
  have tk : Takes (cxOf (L2.CX P w) P w K mg base ["swap"] "check_swap" (defScope sCheckSwap) f cdv A outer s H E) (fun cls d _ H' => E cls d H') := takes_of rfl rfl rfl rfl
  refine ⟨_, pss_one (ps_if (pt_not (pt_val (pe_callB call_isi (by rfl) G.isi (by decide +kernel) (pa_cons (pv 0) (pa_cons (pe_glob (v := .ref CS) rfl gS rfl) pa_nil))))) (pss_one (ps_rs B.swap rfl tk hr (pa_cons pe_str pa_nil))) pss_nil), ?_⟩
  rcases h with ⟨a, ns, hs, rfl, ⟨dx, pp, ph, pn, as, nas, h1, _⟩, q⟩ | ⟨⟨t, ty, k1⟩, q⟩
  · exact ⟨_, rfl, _, _, _, _, _, rfl, .own CS, .base (R.ty h1), R.me, true, rfl, iteF q⟩
  · exact ⟨_, rfl, _, _, _, _, _, rfl, .own CS, .base ty, k1, false, rfl, iteT (rs_c q)⟩
/-- the length of a swap, the def itself -/
structure LenO (P : Program) (w : World) (K : PySem.W.Frag) (mg : Str → Option Value) (base : Heap) (C CH CS : Addr) : Prop where
  o : Own P w K mg base CS CX0 1 "__len__" ["self"] (spLen C CH CS)
theorem scDoneSet : FnScope ["swap", "done"] ["swap", "done"] (defScope sDoneSet) := ⟨rfl, rfl, rfl, by decide +kernel, rfl, by decide +kernel, by decide +kernel⟩
abbrev HasCheck (P : Program) (w : World) (K : PySem.W.Frag) (mg : Str → Option Value) (base : Heap) (C CH CS CW : Addr) : Prop := Has P w K mg base (L2.CX P w) 3 "check_swap" ["swap"] (spCheck K C CH CS CW)
theorem ok_doneSet (G : Glob mg) (HC : HasCheck P w K mg base C CH CS CW) (HD : HasDone P w K mg base CD CI CT) (OL : LenO P w K mg base C CH CS) (F : DefAt K "done_set" "done_set" sDoneSet f fd) : FnOk P w K mg base (L2.CX P w) 7 f fd ["swap", "done"] (spDoneSet K C CH CS CW CD CI CT) := by
  obtain ⟨fc, fdc, mC, kC, bC, GC⟩ := HC.h
  obtain ⟨fd_, fdd, mD, kD, bD, GD⟩ := HD.h
  obtain ⟨fl, fdl, ML, bL, GL⟩ := OL.o.h
  refine okX F scDoneSet (fun vs H Q E ⟨u, v, e, _⟩ => by rw [e]; rfl) (fun cdv A outer s H vs Q E hr ⟨u, v, e, h⟩ => ?_)
  subst e
  have tk : Takes (cxOf (L2.CX P w) P w K mg base ["swap", "done"] "done_set" (defScope sDoneSet) f cdv A outer s H E) (fun cls d _ H' => E cls d H') := takes_of rfl rfl rfl rfl
  have ps := passes_call tk (E := E) fun _ _ _ _ z => z
  refine ⟨_, pss_cons (ps_expr (pe_call GC (hr.mono (by decide)) rfl mC kC bC .nil ps (pa_cons (pv 0) pa_nil)))
    (pss_one (ps_ret (pe_call GD hr rfl mD kD bD .nil ps (pa_cons (pe_callB (call_lenO ML GL (hr.mono (by decide)) bL pass0) (by rfl) G.len PySem.boot_len (pa_cons (pv 0) pa_nil)) (pa_cons (pv 1) (pa_cons pe_str pa_nil)))))), ?_⟩
  rcases h with ⟨ns, q⟩ | ⟨a, ns, hs, rfl, ha, l, q⟩
  · exact ⟨_, rfl, u, rfl, .inr ⟨ns, q⟩⟩
  · refine ⟨_, rfl, _, rfl, .inl ⟨a, ns, hs, rfl, ha, ?_⟩⟩
    obtain ⟨dx, pp, ph, pn, as, nas, h1, _⟩ := id ha
    exact ⟨_, rfl, a, dx, _, rfl, h1, a, ns, hs, rfl, ha, _, rfl, by omega, by omega, _, rfl, _, _, _, rfl, q⟩
theorem scBack : FnScope ["swap"] ["swap"] (defScope sBack) := ⟨rfl, rfl, rfl, by decide +kernel, rfl, by decide +kernel, by decide +kernel⟩
theorem ok_back (HC : HasCheck P w K mg base C CH CS CW) (ON : Own P w K mg base CS CX0 11 "__neg__" ["self"] (spSNeg C CH CS)) (F : DefAt K "handed_back" "handed_back" sBack f fd) : FnOk P w K mg base (L2.CX P w) 12 f fd ["swap"] (spBack K C CH CS CW) := by
  obtain ⟨fc, fdc, mC, kC, bC, GC⟩ := HC.h
  obtain ⟨fn, fdn, MN, bN, GN⟩ := ON.h
  refine okX F scBack (fun vs H Q E ⟨v, e, _⟩ => by rw [e]; rfl) (fun cdv A outer s H vs Q E hr ⟨v, e, h⟩ => ?_)
  subst e
  have tk : Takes (cxOf (L2.CX P w) P w K mg base ["swap"] "handed_back" (defScope sBack) f cdv A outer s H E) (fun cls d _ H' => E cls d H') := takes_of rfl rfl rfl rfl
  have ps := passes_call tk (E := E) fun _ _ _ _ z => z
  refine ⟨_, pss_cons (ps_expr (pe_call GC (hr.mono (by decide)) rfl mC kC bC .nil ps (pa_cons (pv 0) pa_nil))) (pss_one (ps_ret (pe_un (un_own MN GN hr bN pass0) (pv 0)))), ?_⟩
  rcases h with ⟨a, ns, hs, rfl, ha, ok, l, q⟩ | ⟨ns, q⟩
  · refine ⟨_, rfl, _, rfl, .inl ⟨a, ns, hs, rfl, ha, ?_⟩⟩
    obtain ⟨dx, pp, ph, pn, as, nas, h1, _⟩ := id ha
    exact ⟨_, rfl, a, dx, _, rfl, h1, a, ns, hs, rfl, ha, ok, l, q⟩
  · exact ⟨_, rfl, v, rfl, .inr ⟨ns, q⟩⟩
/-! ### sums -/
/-- the sum that one has at a done set -/
def effs (hs : List Hnd) (ks : List Nat) (n : Str) : Int := (ks.map fun k => match hs[k]? with | some h => h.eff n | none => 0).sum
def kV (ks : List Nat) : List V := ks.map fun k : Nat => V.int k
def spEffects (C CH CS : Addr) : Sp := fun vs H Q _ => ∃ a t ns hs n, ∃ ks : List Nat, vs = [.ref a, .ref t, .str n] ∧ SwAt C CH CS H a ns hs ∧ (∀ h ∈ hs, HnOk h) ∧ SqA H t (kV ks) ∧ (∀ k ∈ ks, k < hs.length) ∧ ks.length ≤ 100 ∧ ∀ p H', Same H H' → H p = none → Six C H' p (effs hs ks n) → Q (.ref p) H'
/-- swap[number] -/
structure ItemO (P : Program) (w : World) (K : PySem.W.Frag) (mg : Str → Option Value) (base : Heap) (C CH CS : Addr) : Prop where
  h : ∃ f fd, OwnM K CS "__getitem__" f ∧ PySem.W.fnIn K f = true ∧ Binds K fd ["self", "at"] [] ∧ FnOk P w K mg base CX0 5 f fd ["self", "at"] (spItem C CH CS)
theorem scEffects : FnScope ["swap", "numbers", "name", "number"] ["swap", "numbers", "name"] (defScope sEffects) := ⟨rfl, rfl, rfl, by decide +kernel, rfl, by decide +kernel, by decide +kernel⟩
theorem ok_effects (RH : HandF K CH) (IO : ItemO P w K mg base C CH CS) (EM : EffM P w K mg base C CH) (HA : HasAdded P w K mg base C) (F : DefAt K "_effects_on" "_effects_on" sEffects f fd) : FnOk P w K mg base CX0 7 f fd ["swap", "numbers", "name"] (spEffects C CH CS) := by
  obtain ⟨fi, fdi, Mi, ki, bI, GI⟩ := IO.h
  obtain ⟨fe, fde, Me, bE, GE⟩ := EM.h
  obtain ⟨fa, fda, mA, kA, bA, GA⟩ := HA.h
  refine okN F scEffects (fun vs H Q E ⟨a, t, ns, hs, n, ks, e, _⟩ => by rw [e]; rfl) (fun cdv A outer s H vs Q E hr ⟨a, t, ns, hs, n, ks, e, ha, ok, sq, lt, l, q⟩ => ?_)
  subst e
  refine ⟨_, pss_one (ps_ret (pe_call GA hr rfl mA kA bA .nil pass0 (pa_cons
    (pe_lc (own := [("number", 3)]) (g := gName 3) (tt := tYes) rfl scEffects.nd (pi_seq (pv 1)) (blkOk_by (N := ["swap", "numbers", "name", "number"]) (sc := defScope sEffects) (by decide +kernel))
      (fun _ _ _ _ _ => pg_name (i := 3) scEffects.nd rfl (Or.inl rfl)) (fun _ _ _ _ _ => pts_nil)
      (fun _ _ _ _ _ => pe_meth (pe_itemO (E := E0) Mi ki GI hr bI pass0 (pv 0) (pv 3)) RH.cl Me GE (hr.mono (by decide)) bE .nil pass0 (pa_cons (pv 2) pa_nil))) pa_nil))), ?_⟩
  have sz : sizeLine = 16777216 := sizeLine_eq
  refine ⟨_, rfl, t, rfl, ?_⟩
  refine lc_seqA sq fun D hD => ⟨fun i H2 => Same H H2 ∧ SixL C H2 D ((ks.take i).map fun k => match hs[k]? with | some h => h.eff n | none => 0), ⟨upd_new hD, [], upd_same, .nil⟩, fun i H2 _ z => ?_, ?_, ?_⟩
  · obtain ⟨o, e⟩ := sq.there
    rw [e, z.1 _ _ e]
  · rintro i x H2 hx ⟨s2, sl2⟩
    obtain ⟨k, ek, rfl⟩ := map_at hx
    have hk := lt k (List.mem_of_getElem? ek)
    have li := (List.getElem?_eq_some_iff.mp ek).1
    have eh : hs[k]? = some hs[k] := List.getElem?_eq_getElem hk
    have sw2 := ha.same s2
    obtain ⟨dx, pp, ph, pn, as, nas, h1, _⟩ := id sw2
    refine ⟨rfl, yes_of ⟨_, rfl, _, rfl, a, dx, _, rfl, h1, a, ns, hs, (k : Int), hs[k], rfl, sw2, by omega, by rw [Int.toNat_natCast]; exact eh, fun p H3 s3 hp => ?_⟩⟩
    obtain ⟨dy, pc, pd, z1, _, _⟩ := id hp
    refine ⟨p, dy, _, rfl, z1, no_eff _ _ _ _, _, rfl, p, hs[k], n, rfl, hp, ok _ (List.mem_of_getElem? eh), fun p' H4 s4 hp' => ?_⟩
    obtain ⟨qs, hd, al⟩ := (sl2.same s3).same s4
    refine ⟨_, hd, ?_, same_upd hD ((s2.trans s3).trans s4), qs ++ [p'], by rw [upd_same, List.map_append]; rfl, ?_⟩
    · rw [List.length_map, al.1, List.length_map, List.length_take]; omega
    · rw [take_more ek, List.map_append]
      refine All2.snoc (al.mono fun u v z => six_upd hd z) (six_upd hd ?_)
      show Six C H4 p' (match hs[k]? with | some h => h.eff n | none => 0)
      rw [eh]
      exact hp'
  · rintro H2 ⟨s2, sl2⟩
    rw [show (kV ks).length = ks.length from List.length_map _, List.take_length] at sl2
    refine ⟨D, _, rfl, sl2, ⟨by rw [List.length_map]; exact l, fun x hx => ?_⟩, fun p H3 s3 np hp => q p H3 (s2.trans s3) (s2.free np) hp⟩
    obtain ⟨k, mk, rfl⟩ := List.mem_map.mp hx
    rw [List.getElem?_eq_getElem (lt k mk)]
    exact eff_sm (ok _ (List.getElem_mem _)) n
end
end K5

/-! k05: sums, portion. -/
namespace K5
open PySem PySem.Spec PyProof.Rows L2 LamX K1 K18

theorem nd_len {l : List Nat} {m : Nat} (nd : l.Nodup) (h : ∀ x ∈ l, x < m) : l.length ≤ m := by
  have := List.Nodup.length_le_of_subset (l₂ := List.range m) nd fun x hx => List.mem_range.mpr (h x hx)
  rwa [List.length_range] at this
abbrev nI (ks : List Nat) : List Int := ks.map fun k : Nat => (k : Int)
theorem kV_eq (ks : List Nat) : kV ks = (nI ks).map V.int := by unfold kV nI; rw [List.map_map]; rfl
theorem asc_nd {ks : List Nat} (h : ks.Pairwise (· < ·)) : ks.Nodup := h.imp fun h => Nat.ne_of_lt h
theorem nI_nd {ks : List Nat} (h : ks.Nodup) : (nI ks).Nodup := by
  refine List.pairwise_map.mpr (h.imp fun {a b} z e => z (by omega))
/-- ints sorted, a permutation of ascending numbers: those -/
theorem sorted_is {js : List Int} {ks : List Nat} (p : js.Perm (nI ks)) (s : js.Pairwise (· ≤ ·)) (a : ks.Pairwise (· < ·)) : js = nI ks := by
  refine List.Perm.eq_of_pairwise (le := (· ≤ ·)) (fun a b _ _ x y => by omega) s ?_ p
  exact List.pairwise_map.mpr (a.imp fun h => by omega)
theorem nI_perm {ms ks : List Nat} (p : ms.Perm ks) : (nI ms).Perm (nI ks) := p.map _
section
variable {K : PySem.W.Frag} {CD CI CT : Addr} {H : Hp} {E : XK}
/-- good numbers, in any order -/
theorem handsW_good {b : Addr} {ms ks : List Nat} {m : Nat} {part : V} {k : List Int → Addr → Prop} (sq : SqA H b (kV ms)) (p : ms.Perm ks) (a : ks.Pairwise (· < ·)) (lt : ∀ x ∈ ks, x < m) (l : ks.length ≤ 1000) (go : k (nI ms) b) : HandsW K CD CI CT (m : Nat) (.ref b) part H E k := by
  have nd : ms.Nodup := p.symm.nodup (asc_nd a)
  have ltm : ∀ x ∈ ms, x < m := fun x hx => lt x (p.mem_iff.mp hx)
  have lm := p.length_eq
  refine .inr ⟨b, nI ms, rfl, by rw [← kV_eq]; exact sq, by rw [List.length_map]; omega, fun i n hn bad _ => ?_, fun _ i n dup => ?_, fun _ _ => go⟩
  · obtain ⟨x, hx, rfl⟩ := map_at hn
    exact absurd ⟨by omega, by have := ltm x (List.mem_of_getElem? hx); omega⟩ bad
  · obtain ⟨h1, h2, _⟩ := dup
    have z : ((nI ms).take (i + 1)).Nodup := (nI_nd nd).sublist (List.take_sublist _ _)
    rw [take_more h1] at z
    exact absurd rfl ((List.nodup_append.mp z).2.2 n h2 n (by simp))
end
def spSums (C CH CS : Addr) : Sp := fun vs H Q _ => ∃ a b ns hs, ∃ ms ks : List Nat, vs = [.ref a, .ref b] ∧ SwAt C CH CS H a ns hs ∧ (∀ h ∈ hs, HnOk h) ∧ hs.length ≤ 50 ∧ ns.length ≤ 6 ∧ SqA H b (kV ms) ∧ ms.Perm ks ∧ ks.Pairwise (· < ·) ∧ (∀ k ∈ ks, k < hs.length) ∧
  ∀ p qs H', Same H H' → H' p = some (.tup (qs.map V.ref)) → All2 (Six C H') qs (ns.map (effs hs ks)) → Q (.ref p) H'
def pickL (hs : List Hnd) (ks : List Nat) : List Hnd := ks.filterMap fun k => hs[k]?
def spPortion (K : PySem.W.Frag) (C CH CS CW CD CI CT : Addr) : Sp := fun vs H Q E => ∃ u v, vs = [u, v] ∧ ((NotSw K CS H u ∧ ∀ d H', ToldF H H' d [("part", .str "swap")] → E (.ref CW) (some d) H') ∨
  ∃ a ns hs, u = .ref a ∧ SwAt C CH CS H a ns hs ∧ SwOk ns hs ∧ hs.length ≤ 40 ∧ HandsW K CD CI CT (hs.length : Nat) v (.str "done") H E fun js b => ∃ ks : List Nat, js.Perm (nI ks) ∧ ks.Pairwise (· < ·) ∧ (∀ k ∈ ks, k < hs.length) ∧
    ∀ p H', Same H H' → H p = none → SwAt C CH CS H' p ns (pickL hs ks) → Q (.ref p) H')
section
variable {P : Program} {w : World} {K : PySem.W.Frag} {mg : Str → Option Value} {base : Heap} {f C CH CS CW CD CI CT CU CM : Addr} {fd : FuncData}
abbrev HasDoneSet (P : Program) (w : World) (K : PySem.W.Frag) (mg : Str → Option Value) (base : Heap) (C CH CS CW CD CI CT : Addr) : Prop := Has P w K mg base (L2.CX P w) 7 "done_set" ["swap", "done"] (spDoneSet K C CH CS CW CD CI CT)
abbrev HasEffects (P : Program) (w : World) (K : PySem.W.Frag) (mg : Str → Option Value) (base : Heap) (C CH CS : Addr) : Prop := Has P w K mg base CX0 7 "_effects_on" ["swap", "numbers", "name"] (spEffects C CH CS)
abbrev nSums : List Str := ["swap", "done", "told", "name"]
theorem scSums : FnScope nSums ["swap", "done"] (defScope sSums) := ⟨rfl, rfl, rfl, by decide +kernel, rfl, by decide +kernel, by decide +kernel⟩
theorem ok_sums (G : Glob mg) (R : SwapF K CS) (HD : HasDoneSet P w K mg base C CH CS CW CD CI CT) (HE : HasEffects P w K mg base C CH CS) (F : DefAt K "sums" "sums" sSums f fd) : FnOk P w K mg base CX0 8 f fd ["swap", "done"] (spSums C CH CS) := by
  obtain ⟨fd_, fdd, mD, kD, bD, GD⟩ := HD.h
  obtain ⟨fe, fde, mE, kE, bE, GE⟩ := HE.h
  refine okN F scSums (fun vs H Q E ⟨a, b, ns, hs, ms, ks, e, _⟩ => by rw [e]; rfl) (fun cdv A outer s H vs Q E hr ⟨a, b, ns, hs, ms, ks, e, ha, ok, l50, n6, sq, pm, asc, lt, q⟩ => ?_)
  subst e
  refine ⟨_, pss_cons (ps_set (i := 2) scSums.nd rfl (Or.inr rfl) (pe_call (E := E0) GD hr rfl mD kD bD .nil passL (pa_cons (pv 0) (pa_cons (pv 1) pa_nil))))
    (pss_one (ps_ret (pe_callTy (r := rTupK K) (call_tupK rfl) (by rfl) G.tup (by decide +kernel) (pa_cons
      (pe_lc (own := [("name", 3)]) (g := gName 3) (tt := tYes) rfl scSums.nd (pi_tup (pe_fld (pv 0) rfl)) (blkOk_by (N := nSums) (sc := defScope sSums) (by decide +kernel))
        (fun _ _ _ _ _ => pg_name (i := 3) scSums.nd rfl (Or.inl rfl)) (fun _ _ _ _ _ => pts_nil) (fun _ _ _ _ _ => pe_call GE hr rfl mE kE bE .nil pass0 (pa_cons (pv 0) (pa_cons (pv 2) (pa_cons (pv 3) pa_nil))))) pa_nil)))), ?_⟩
  have sz : sizeLine = 16777216 := sizeLine_eq
  have lk := nd_len (asc_nd asc) lt
  refine ⟨_, rfl, _, rfl, _, _, rfl, .inr ⟨a, ns, hs, rfl, ha, by omega, handsW_good sq pm asc lt (by omega) fun js t H1 pj sj s1 ht => ?_⟩⟩
  obtain rfl := sorted_is (pj.trans (nI_perm pm)) sj asc
  rw [← kV_eq] at ht
  have sw1 := ha.same s1
  obtain ⟨dx, pp, ph, pn, as, nas, h1, h2, h3, h4, h5, h6⟩ := id sw1
  refine ⟨_, rfl, a, CS, dx, _, _, rfl, h1, R.cl, R.nS, fs_s _ _ _, pp, rfl, ⟨_, SqT.of h2⟩, fun D hD => ?_⟩
  refine lc_tup (K := K) (a := pp) (xs := ns.map V.str) (fun i H2 => Same H1 H2 ∧ SixL C H2 D ((ns.take i).map (effs hs ks))) ⟨upd_new hD, [], upd_same, .nil⟩ (fun i H2 _ z => SqT.of (z.1 _ _ h2)) ?_ ?_
  · rintro i x H2 hx ⟨s2, sl2⟩
    obtain ⟨n, en, rfl⟩ := map_at hx
    have li := (List.getElem?_eq_some_iff.mp en).1
    refine ⟨rfl, yes_of ⟨_, rfl, _, rfl, _, rfl, a, t, ns, hs, n, ks, rfl, sw1.same s2, ok, .inr (s2 _ _ ht), lt, by omega, fun p H3 s3 np hp => ?_⟩⟩
    obtain ⟨qs, hd, al⟩ := sl2.same s3
    refine ⟨_, hd, ?_, same_upd hD (s2.trans s3), qs ++ [p], by rw [upd_same, List.map_append]; rfl, ?_⟩
    · rw [List.length_map, al.1, List.length_map, List.length_take]; omega
    · rw [take_more en, List.map_append]
      exact All2.snoc (al.mono fun u v z => six_upd hd z) (six_upd hd hp)
  · rintro H2 ⟨s2, qs, hd, al⟩
    rw [List.length_map, List.take_length] at al
    refine ⟨D, _, rfl, .inl ⟨SqL.of hd, fun p np => ?_⟩⟩
    have s3 := upd_new (o := .tup (qs.map V.ref)) np
    exact q p qs _ ((s1.trans s2).trans s3) upd_same (al.mono fun u v z => z.same s3)
abbrev nPor : List Str := ["swap", "done", "told", "number"]
theorem scPor : FnScope nPor ["swap", "done"] (defScope sPortion) := ⟨rfl, rfl, rfl, by decide +kernel, rfl, by decide +kernel, by decide +kernel⟩
theorem pick_ok {ns : List Str} {hs : List Hnd} (k : SwOk ns hs) (ks : List Nat) : SwOk ns (pickL hs ks) := ⟨k.n2, k.n6, k.nd, k.nm, fun h m => by
  obtain ⟨i, _, e⟩ := List.mem_filterMap.mp m
  exact k.hk h (List.mem_of_getElem? e)⟩
theorem pick_len (hs : List Hnd) (ks : List Nat) : (pickL hs ks).length ≤ ks.length := List.length_filterMap_le _ _
theorem ok_portion (G : Glob mg) (R : SwapF K CS) (M : MkS P w K mg base C CH CS CM) (HD : HasDoneSet P w K mg base C CH CS CW CD CI CT) (F : DefAt K "portion" "portion" sPortion f fd) : FnOk P w K mg base (L2.CX P w) 10 f fd ["swap", "done"] (spPortion K C CH CS CW CD CI CT) := by
  obtain ⟨fd_, fdd, mD, kD, bD, GD⟩ := HD.h
  obtain ⟨fm, fdm, Mm, GM, bM⟩ := M.m
  refine okX F scPor (fun vs H Q E ⟨u, v, e, _⟩ => by rw [e]; rfl) (fun cdv A outer s H vs Q E hr ⟨u, v, e, h⟩ => ?_)
  subst e
  have tk : Takes (cxOf (L2.CX P w) P w K mg base nPor "portion" (defScope sPortion) f cdv A outer s H E) (fun cls d _ H' => E cls d H') := takes_of rfl rfl rfl rfl
  have ps := passes_call tk (E := E) fun _ _ _ _ z => z
  refine ⟨_, pss_cons (ps_set (i := 2) scPor.nd rfl (Or.inl rfl) (pe_call GD (hr.mono (by decide)) rfl mD kD bD .nil ps (pa_cons (pv 0) (pa_cons (pv 1) pa_nil))))
    (pss_one (ps_ret (pe_make (E := E0) Mm GM hr rfl M.g bM .nil passL (pa_cons (pe_fld (pv 0) rfl) (pa_cons
      (pe_lc (own := [("number", 3)]) (g := gName 3) (tt := tYes) rfl scPor.nd (pi_tup (pv 2)) (blkOk_by (N := nPor) (sc := defScope sPortion) (by decide +kernel))
        (fun _ _ _ _ _ => pg_name (i := 3) scPor.nd rfl (Or.inl rfl)) (fun _ _ _ _ _ => pts_nil) (fun _ _ _ _ _ => pe_ix (r := rIxT K) ix_tup (show PE _ _ (tFld K (tVar 0) "hands") from pe_fld (pv 0) rfl) (pv 3) (fun _ _ => rfl))) pa_nil))))), ?_⟩
  have sz : sizeLine = 16777216 := sizeLine_eq
  rcases h with ⟨nt, q⟩ | ⟨a, ns, hs, rfl, ha, ok, l40, hw⟩
  · exact ⟨_, rfl, _, rfl, u, v, rfl, .inl ⟨nt, q⟩⟩
  refine ⟨_, rfl, _, rfl, _, v, rfl, .inr ⟨a, ns, hs, rfl, ha, by omega, ?_⟩⟩
  rcases hw with hw | ⟨b, js, rfl, sq, lj, qH, qT, qK⟩
  · exact .inl hw
  refine .inr ⟨b, js, rfl, sq, lj, qH, qT, fun al nd is t H1 pj sj s1 ht => ?_⟩
  obtain ⟨ks, pk, asc, lt, q⟩ := qK al nd
  obtain rfl := sorted_is (pj.trans pk) sj asc
  rw [← kV_eq] at ht
  have lk := nd_len (asc_nd asc) lt
  obtain ⟨dx, pp, ph, pn, as, nas, h1, h2, h3, h4, h5, h6⟩ := ha.same s1
  refine ⟨_, rfl, a, CS, dx, _, _, rfl, h1, R.cl, R.nS, fs_s _ _ _, _, rfl, t, rfl, ⟨_, SqT.of ht⟩, fun D hD => ?_⟩
  refine lc_tup (K := K) (a := t) (xs := kV ks) (fun i H2 => Same H1 H2 ∧ ∃ bs, H2 D = some (.lst (bs.map V.ref)) ∧ Hands C CH H2 bs (pickL hs (ks.take i))) ⟨upd_new hD, [], upd_same, .nil⟩ (fun i H2 _ z => SqT.of (z.1 _ _ ht)) ?_ ?_
  · rintro i x H2 hx ⟨s2, bs, hb, bl⟩
    obtain ⟨k, ek, rfl⟩ := map_at hx
    have hk := lt k (List.mem_of_getElem? ek)
    have li := (List.getElem?_eq_some_iff.mp ek).1
    have eh : hs[k]? = some hs[k] := List.getElem?_eq_getElem hk
    obtain ⟨p, hp, hat⟩ := h4.getR eh
    refine ⟨rfl, yes_of ⟨_, rfl, a, CS, dx, _, _, rfl, s2 _ _ h1, R.cl, R.nH, fs_h _ _ _, _, rfl, ph, as.map V.ref, (k : Int), .ref p, rfl, rfl, SqT.of (s2 _ _ h3), atI_nat (by rw [List.getElem?_map, hp]; rfl), _, hb, ?_, same_upd hD s2, bs ++ [p], by rw [upd_same, List.map_append]; rfl, ?_⟩⟩
    · rw [List.length_map, bl.1]
      have := pick_len hs (ks.take i)
      rw [List.length_take] at this
      omega
    · have z : pickL hs (ks.take (i + 1)) = pickL hs (ks.take i) ++ [hs[k]] := by
        unfold pickL
        rw [take_more ek, List.filterMap_append, List.filterMap_cons, eh]
        rfl
      rw [z]
      exact All2.snoc (bl.mono fun u v z => hand_upd hb z) (hand_upd hb (hat.same s2))
  · rintro H2 ⟨s2, bs, hb, bl⟩
    rw [show (kV ks).length = ks.length from List.length_map _, List.take_length] at bl
    exact mk_swap0 (.inr (s2 _ _ h2)) (.inl hb) bl (pick_ok ok ks) (by have := pick_len hs ks; omega) fun p H3 s3 np sw => q p H3 ((s1.trans s2).trans s3) ((s1.trans s2).free np) sw
end
end K5

/-! k05: one_after. -/
namespace K5
open PySem PySem.Spec PyProof.Rows L2 LamX K1 K18

/-! comprehensions with two walks over tuples -/
theorem lc2_out {K : PySem.W.Frag} {a : Addr} {xs : List V} {g g1 : TG} {tt1 : TT} {te : TE} {wi1 : TI} {vs vs1 : List Nat} {σ : L2.St} {H1 : Hp} {D : Addr} {Qd : Hp → Prop} (Pv : Nat → Hp → Prop) (h0 : Pv 0 (upd H1 D (.lst []))) (hl : ∀ i H, i ≤ xs.length → Pv i H → SqT K H a xs)
    (hs : ∀ i x H, xs[i]? = some x → Pv i H → g x (wipe σ vs) H fun σ2 H2 => wipe σ2 vs = wipe σ vs ∧ wi1 σ2 H2 fun J1 H4 => ∃ W1 : Nat → Nat → Hp → Prop, (∃ m, W1 0 m H4) ∧ ∀ j k H, W1 j k H →
      (J1.stop j H ∧ Pv (i + 1) H) ∨ (J1.go j H ∧ ∃ Nx1 : Hp → Prop, (∀ H', Nx1 H' → ∃ k', k' < k ∧ W1 (j + 1) k' H') ∧ ∀ x H', J1.yld j H x H' → g1 x (wipe σ2 vs1) H' fun σ3 H5 => wipe σ3 vs1 = wipe σ2 vs1 ∧ tt1 σ3 H5 fun b H6 =>
        if b = true then te σ3 H6 fun y H7 => ∃ acc, H7 D = some (.lst acc) ∧ acc.length < sizeLine ∧ Nx1 (upd H7 D (.lst (acc ++ [y]))) else Nx1 H6)) (hd : ∀ H, Pv xs.length H → Qd H) :
    ∃ W : Nat → Nat → Hp → Prop, (∃ m, W 0 m (upd H1 D (.lst []))) ∧ ∀ i m H, W i m H →
      ((Itt K a).stop i H ∧ Qd H) ∨ ((Itt K a).go i H ∧ ∃ Nx : Hp → Prop, (∀ H', Nx H' → ∃ m', m' < m ∧ W (i + 1) m' H') ∧ ∀ x H', (Itt K a).yld i H x H' → g x (wipe σ vs) H' fun σ2 H2 => wipe σ2 vs = wipe σ vs ∧ tYes σ2 H2 fun b H3 =>
        if b = true then wi1 σ2 H3 fun J1 H4 => ∃ W1 : Nat → Nat → Hp → Prop, (∃ m, W1 0 m H4) ∧ ∀ j k H, W1 j k H →
          (J1.stop j H ∧ Nx H) ∨ (J1.go j H ∧ ∃ Nx1 : Hp → Prop, (∀ H', Nx1 H' → ∃ k', k' < k ∧ W1 (j + 1) k' H') ∧ ∀ x H', J1.yld j H x H' → g1 x (wipe σ2 vs1) H' fun σ3 H5 => wipe σ3 vs1 = wipe σ2 vs1 ∧ tt1 σ3 H5 fun b H6 =>
            if b = true then te σ3 H6 fun y H7 => ∃ acc, H7 D = some (.lst acc) ∧ acc.length < sizeLine ∧ Nx1 (upd H7 D (.lst (acc ++ [y]))) else Nx1 H6)
        else Nx H3) := by
  refine ⟨fun i m H => m = xs.length - i ∧ i ≤ xs.length ∧ Pv i H, ⟨_, rfl, Nat.zero_le _, h0⟩, ?_⟩
  rintro i m H ⟨rfl, hi, p⟩
  have q := hl i H hi p
  by_cases lt : i < xs.length
  · refine .inr ⟨walk_tup.goes i H lt q, Pv (i + 1), fun H' p' => ⟨_, by omega, rfl, lt, p'⟩, fun x H' y => ?_⟩
    obtain ⟨rfl, ex⟩ := walk_tup.yields i H x H' lt q y
    exact hs i x _ ex p
  · have e : i = xs.length := by omega
    subst e
    exact .inl ⟨walk_tup.stops H q, hd H p⟩
theorem lc2_in {K : PySem.W.Frag} {b : Addr} {ys : List V} {g1 : TG} {te : TE} {vs1 : List Nat} {σ2 : L2.St} {H4 : Hp} {D : Addr} {Nx : Hp → Prop} (Pw : Nat → Hp → Prop) (h0 : Pw 0 H4) (hl : ∀ i H, i ≤ ys.length → Pw i H → SqT K H b ys)
    (hs : ∀ j y H, ys[j]? = some y → Pw j H → g1 y (wipe σ2 vs1) H fun σ3 H5 => wipe σ3 vs1 = wipe σ2 vs1 ∧ te σ3 H5 fun z H7 => ∃ acc, H7 D = some (.lst acc) ∧ acc.length < sizeLine ∧ Pw (j + 1) (upd H7 D (.lst (acc ++ [z])))) (hd : ∀ H, Pw ys.length H → Nx H) :
    ∃ W1 : Nat → Nat → Hp → Prop, (∃ m, W1 0 m H4) ∧ ∀ j k H, W1 j k H →
      ((Itt K b).stop j H ∧ Nx H) ∨ ((Itt K b).go j H ∧ ∃ Nx1 : Hp → Prop, (∀ H', Nx1 H' → ∃ k', k' < k ∧ W1 (j + 1) k' H') ∧ ∀ x H', (Itt K b).yld j H x H' → g1 x (wipe σ2 vs1) H' fun σ3 H5 => wipe σ3 vs1 = wipe σ2 vs1 ∧ tYes σ3 H5 fun c H6 =>
        if c = true then te σ3 H6 fun y H7 => ∃ acc, H7 D = some (.lst acc) ∧ acc.length < sizeLine ∧ Nx1 (upd H7 D (.lst (acc ++ [y]))) else Nx1 H6) := by
  refine ⟨fun i m H => m = ys.length - i ∧ i ≤ ys.length ∧ Pw i H, ⟨_, rfl, Nat.zero_le _, h0⟩, ?_⟩
  rintro i m H ⟨rfl, hi, p⟩
  have q := hl i H hi p
  by_cases lt : i < ys.length
  · refine .inr ⟨walk_tup.goes i H lt q, Pw (i + 1), fun H' p' => ⟨_, by omega, rfl, lt, p'⟩, fun x H' y => ?_⟩
    obtain ⟨rfl, ex⟩ := walk_tup.yields i H x H' lt q y
    exact hs i x _ ex p
  · have e : i = ys.length := by omega
    subst e
    exact .inl ⟨walk_tup.stops H q, hd H p⟩
/-- swaps of a list -/
abbrev Swaps (C CH CS : Addr) (H : Hp) (as : List Addr) (ps : List (List Str × List Hnd)) : Prop := All2 (fun a (p : List Str × List Hnd) => SwAt C CH CS H a p.1 p.2) as ps
theorem Swaps.same {C CH CS : Addr} {H H' : Hp} {as : List Addr} {ps : List (List Str × List Hnd)} (s : Same H H') (h : Swaps C CH CS H as ps) : Swaps C CH CS H' as ps := h.mono fun _ _ z => z.same s
/-- each a swap, or none -/
def SBs (K : PySem.W.Frag) (C CH CS : Addr) (H : Hp) (xs : List V) (bs : List Bool) : Prop := All2 (fun x b => (b = true ∧ ∃ a ns hs, x = .ref a ∧ SwAt C CH CS H a ns hs) ∨ (b = false ∧ NotSw K CS H x)) xs bs
theorem SBs.same {K : PySem.W.Frag} {C CH CS : Addr} {H H' : Hp} {xs : List V} {bs : List Bool} (s : Same H H') (h : SBs K C CH CS H xs bs) : SBs K C CH CS H' xs bs := h.mono fun _ _ z => z.imp (fun ⟨e, a, ns, hs, x, y⟩ => ⟨e, a, ns, hs, x, y.same s⟩) fun ⟨e, n⟩ => ⟨e, n.same s⟩
theorem Swaps.sbs {K : PySem.W.Frag} {C CH CS : Addr} {H : Hp} {as : List Addr} {ps : List (List Str × List Hnd)} (h : Swaps C CH CS H as ps) : SBs K C CH CS H (as.map V.ref) (List.replicate as.length true) := by
  refine ⟨by simp, fun i x b ex eb => .inl ?_⟩
  obtain ⟨a, ea, rfl⟩ := map_at ex
  obtain ⟨p, _, sw⟩ := h.get ea
  rw [List.getElem?_replicate] at eb
  split at eb
  · exact ⟨(Option.some.inj eb).symm, a, p.1, p.2, rfl, sw⟩
  · cases eb
def spOne (K : PySem.W.Frag) (C CH CS CW CU CM : Addr) : Sp := fun vs H Q E => ∃ (t : Addr) (xs : List V), vs = [.ref t] ∧ H t = some (.tup xs) ∧ xs.length ≤ 100 ∧
  ((∃ bs, SBs K C CH CS H xs bs ∧ (xs = [] ∨ bs.all id = false) ∧ ∀ d H', ToldF H H' d [("part", .str "swaps")] → E (.ref CW) (some d) H') ∨
   ∃ as ps ns, xs = as.map V.ref ∧ Swaps C CH CS H as ps ∧ (∀ p ∈ ps, SwOk p.1 p.2 ∧ p.2.length ≤ 40) ∧ ps[0]?.map Prod.fst = some ns ∧
    (((∃ p ∈ ps, p.1 ≠ ns) ∧ ∀ d H', ToldF H H' d [("what", .str "strangers")] → E (.ref CU) (some d) H') ∨
     ((∀ p ∈ ps, p.1 = ns) ∧ (ps.flatMap Prod.snd).length ≤ 100 ∧ ((ps.flatMap Prod.snd).length ≤ 40 → ∀ p H', Same H H' → H p = none → SwAt C CH CS H' p ns (ps.flatMap Prod.snd) → Q (.ref p) H') ∧
      (40 < (ps.flatMap Prod.snd).length → ∀ d H', ToldF H H' d fTooMany → E (.ref CM) (some d) H'))))
abbrev nOA : List Str := ["swaps", "strangers", "swap", "hand"]
section
variable {P : Program} {w : World} {K : PySem.W.Frag} {mg : Str → Option Value} {base : Heap} {f C CH CS CW CD CI CT CU CM : Addr} {fd : FuncData}
theorem scOA : FnScope nOA ["swaps"] (defScope sOneAfter) := ⟨rfl, rfl, rfl, by decide +kernel, rfl, by decide +kernel, by decide +kernel⟩
theorem one_body (G : Glob mg) (R : SwapF K CS) (M : MkS P w K mg base C CH CS CM) (B : Errs P w K mg base CW CD CI CT CU CM) (cdv : Value) (A : Around) (outer : List Env) (s : Shared) (H : Hp) (vs : List V) (Q : VK) (E : XK) (hr : Room 9 (A.deeper (envOfC "one_after" (defScope sOneAfter) s.heap.objs.size f cdv)))
    (h : spOne K C CH CS CW CU CM vs H Q E) : ∃ t, PSs (cxOf (L2.CX P w) P w K mg base nOA "one_after" (defScope sOneAfter) f cdv A outer s H E) (defBody sOneAfter) t ∧ t { nx := fun _ H' => Q .non H', rt := Q } (start nOA vs) H := by
  obtain ⟨fm, fdm, Mm, GM, bM⟩ := M.m
  obtain ⟨t, xs, rfl, ht, l, h⟩ := h
  have hu64 : (A.deeper (envOfC "one_after" (defScope sOneAfter) s.heap.objs.size f cdv)).units + 64 < cLine := by have := hr.un; omega
  have tk : Takes (cxOf (L2.CX P w) P w K mg base nOA "one_after" (defScope sOneAfter) f cdv A outer s H E) (fun cls d _ H' => E cls d H') := takes_of rfl rfl rfl rfl
  have ps := passes_call tk (E := E) fun _ _ _ _ z => z
  have r2 := hr.mono (show 2 ≤ 9 by decide)
  refine ⟨_, pss_cons (ps_if (PW.pt (pw_or (pt_cmpR op_eq (pe_callB (r := rLenA K) (call_lenA rfl) (by rfl) G.len PySem.boot_len (pa_cons (pv 0) pa_nil)) pe_int (nomark _)) (pw_or1 (pt_not (pt_val (pe_callB (cr_all rfl) (by rfl) G.all (by decide +kernel) (pa_cons
          (pe_lc (own := [("swap", 2)]) (g := gName 2) (tt := tYes) rfl scOA.nd (pi_tup (pv 0)) (blkOk_by (N := nOA) (sc := defScope sOneAfter) (by decide +kernel))
            (fun _ _ _ _ _ => pg_name (i := 2) scOA.nd rfl (Or.inl rfl)) (fun _ _ _ _ _ => pts_nil) (fun _ _ _ _ _ => pe_callB (r := rIsi K) call_isi (by rfl) G.isi (by decide +kernel) (pa_cons (pv 2) (pa_cons (pe_glob (v := .ref CS) rfl M.g rfl) pa_nil)))) pa_nil)))))))
      (pss_one (ps_rs B.swap rfl tk r2 (pa_cons pe_str pa_nil))) pss_nil)
    (pss_cons (ps_set (i := 1) scOA.nd rfl (Or.inr rfl) (pe_fld (pe_ix ix_tup (pv 0) pe_int (fun _ _ => rfl)) rfl))
    (pss_cons (ps_if (pt_not (pt_val (pe_callB (cr_all rfl) (by rfl) G.all (by decide +kernel) (pa_cons
          (pe_lc (own := [("swap", 2)]) (g := gName 2) (tt := tYes) rfl scOA.nd (pi_tup (pv 0)) (blkOk_by (N := nOA) (sc := defScope sOneAfter) (by decide +kernel))
            (fun _ _ _ _ _ => pg_name (i := 2) scOA.nd rfl (Or.inl rfl)) (fun _ _ _ _ _ => pts_nil) (fun _ _ _ _ _ => pe_cmpR (r := rEqD K) (op_eqD hu64) (show PE _ _ (tFld K (tVar 2) "strangers") from pe_fld (pv 2) rfl) (pv 1) (nomark _))) pa_nil))))
      (pss_one (ps_rs B.unlike rfl tk r2 (pa_cons pe_str pa_nil))) pss_nil)
    (pss_one (ps_ret (pe_make (E := E) Mm GM hr rfl M.g bM .nil ps (pa_cons (pv 1) (pa_cons
          (pe_lc2 (own := [("swap", 2), ("hand", 3)]) (vs1 := [3]) (g := gName 2) (g1 := gName 3) (tt := tYes) (tt1 := tYes) rfl scOA.nd (pi_tup (pv 0)) (blkOk_by (N := nOA) (sc := defScope sOneAfter) (by decide +kernel)) (by simp)
            (fun _ _ _ _ _ => pg_name (i := 2) scOA.nd rfl (Or.inl rfl)) (fun _ _ _ _ _ => pts_nil) (fun _ _ _ _ _ => show PI _ _ _ (iTup K (tFld K (tVar 2) "hands")) from pi_tup (show PE _ _ (tFld K (tVar 2) "hands") from pe_fld (pv 2) rfl))
            (fun _ _ _ _ _ => pg_name (i := 3) scOA.nd rfl (Or.inl rfl)) (fun _ _ _ _ _ => pts_nil) (fun _ _ _ _ _ => pv 3)) pa_nil))))))), ?_⟩
  have sz : sizeLine = 16777216 := sizeLine_eq
  have dec0 : decide (V.int (xs.length : Nat) = V.int 0) = decide (xs = []) := by
    rw [decI]
    refine decide_eq_decide.mpr ⟨fun z => List.length_eq_zero_iff.mp (by omega), fun z => by rw [z]; rfl⟩
  rcases h with ⟨bs, sb, why, q⟩ | ⟨as, pp, ns, rfl, sw, ok, n0, h⟩
  · refine ⟨_, rfl, t, xs, rfl, .inr (SqT.of ht), rfl, decide (xs = []), by rw [dec0], ?_⟩
    by_cases e : xs = []
    · rw [decide_eq_true e]
      exact iteT (iteT (rs_c q))
    rw [decide_eq_false e]
    refine iteF ⟨_, rfl, t, rfl, ⟨_, SqT.of ht⟩, fun D hD => ?_⟩
    refine lc_tup (K := K) (a := t) (xs := xs) (fun i H2 => Same H H2 ∧ H2 D = some (.lst ((bs.take i).map V.bl))) ⟨upd_new hD, upd_same⟩ (fun i H2 _ z => SqT.of (z.1 _ _ ht)) ?_ ?_
    · rintro i x H2 hx ⟨s2, h2⟩
      obtain ⟨b, eb, z⟩ := (sb.same s2).get hx
      have li := (List.getElem?_eq_some_iff.mp hx).1
      have fin : ∃ acc, H2 D = some (.lst acc) ∧ acc.length < sizeLine ∧ (Same H (upd H2 D (.lst (acc ++ [V.bl b]))) ∧ upd H2 D (.lst (acc ++ [V.bl b])) D = some (.lst ((bs.take (i + 1)).map V.bl))) :=
        ⟨_, h2, by rw [List.length_map, List.length_take]; omega, same_upd hD s2, by rw [upd_same, take_more eb, List.map_append]; rfl⟩
      rcases z with ⟨rfl, a, ns, hs, rfl, dx, _, _, _, _, _, h1, _⟩ | ⟨rfl, ty, k1, k2⟩
      · exact ⟨rfl, yes_of ⟨_, rfl, _, _, _, _, _, rfl, .own CS, .base (R.ty h1), R.me, fin⟩⟩
      · exact ⟨rfl, yes_of ⟨_, rfl, _, _, _, _, _, rfl, .own CS, .base k1, k2, fin⟩⟩
    · rintro H2 ⟨s2, h2⟩
      rw [sb.1, List.take_length] at h2
      refine ⟨D, bs, rfl, SqL.of h2, bs.all id, rfl, ?_⟩
      rw [why.resolve_left e]
      exact iteT (rs_c fun d H' z => q d H' (z.from s2))
  -- all swaps
  have l0 : 0 < as.length := by
    have := sw.1
    cases pp with
    | nil => cases n0
    | cons => rw [this]; simp
  have ne : as.map V.ref ≠ [] := fun z => by rw [List.map_eq_nil_iff] at z; rw [z] at l0; cases l0
  refine ⟨_, rfl, t, _, rfl, .inr (SqT.of ht), rfl, false, by rw [dec0, decide_eq_false ne], iteF ?_⟩
  refine ⟨_, rfl, t, rfl, ⟨_, SqT.of ht⟩, fun D hD => ?_⟩
  refine lc_tup (K := K) (a := t) (xs := as.map V.ref) (fun i H2 => Same H H2 ∧ H2 D = some (.lst (List.replicate i (V.bl true)))) ⟨upd_new hD, upd_same⟩ (fun i H2 _ z => SqT.of (z.1 _ _ ht)) ?_ ?_
  · rintro i x H2 hx ⟨s2, h2⟩
    obtain ⟨a, ea, rfl⟩ := map_at hx
    obtain ⟨p, ep, dx, _, _, _, _, _, h1, _⟩ := (sw.same s2).get ea
    have li := (List.getElem?_eq_some_iff.mp hx).1
    exact ⟨rfl, yes_of ⟨_, rfl, _, _, _, _, _, rfl, .own CS, .base (R.ty h1), R.me, _, h2, by rw [List.length_replicate]; omega, same_upd hD s2, by rw [rep_snoc, upd_same]⟩⟩
  rintro H1 ⟨s1, h1D⟩
  refine ⟨D, List.replicate _ true, rfl, SqL.of (by rw [h1D, List.map_replicate]), ?_⟩
  rw [all_true]
  refine ⟨true, rfl, iteF ?_⟩
  -- strangers
  obtain ⟨a0, ea0⟩ : ∃ a0, as[0]? = some a0 := ⟨_, List.getElem?_eq_getElem l0⟩
  obtain ⟨p0, ep0, sw0⟩ := (sw.same s1).get ea0
  have en : p0.1 = ns := by rw [ep0] at n0; exact Option.some.inj n0
  obtain ⟨dx, ps0, ph0, pn0, as0, nas0, h1, h2, h3, h4, h5, h6⟩ := sw0
  rw [en] at h2
  have ok0 := ok p0 (List.mem_of_getElem? ep0)
  refine ⟨_, rfl, t, as.map V.ref, 0, .ref a0, rfl, rfl, SqT.of (s1 _ _ ht), atI_nat (j := 0) (by rw [List.getElem?_map, ea0]; rfl), a0, CS, dx, _, _, rfl, h1, R.cl, R.nS, fs_s _ _ _, ?_⟩
  have on := fun x m => nm_ok (ok0.1.nm x (by rw [en]; exact m))
  have nsOk : ∀ x ∈ ns, PyData.strOk x = true := on
  refine ⟨_, rfl, t, rfl, ⟨_, SqT.of (s1 _ _ ht)⟩, fun D2 hD2 => ?_⟩
  refine lc_tup (K := K) (a := t) (xs := as.map V.ref) (fun i H2 => Same H1 H2 ∧ H2 D2 = some (.lst (((pp.take i).map fun p => decide (p.1 = ns)).map V.bl))) ⟨upd_new hD2, upd_same⟩ (fun i H2 _ z => SqT.of (z.1 _ _ (s1 _ _ ht))) ?_ ?_
  · rintro i x H2 hx ⟨s2, hd2⟩
    obtain ⟨a, ea, rfl⟩ := map_at hx
    obtain ⟨p, ep, dy, qs, qh, qn, bs, nbs, k1, k2, k3, k4, k5, k6⟩ := ((sw.same s1).same s2).get ea
    have li := (List.getElem?_eq_some_iff.mp ep).1
    have ll : pp.length ≤ 100 := by rw [← sw.1]; rw [List.length_map] at l; exact l
    have okp := fun x m => nm_ok ((ok p (List.mem_of_getElem? ep)).1.nm x m)
    refine ⟨rfl, yes_of ⟨_, rfl, a, CS, dy, _, _, rfl, k1, R.cl, R.nS, fs_s _ _ _, _, rfl, .tuple (p.1.map PyData.str), .tuple (ns.map PyData.str), .tup (SqT.of k2) (dps_S _), .tup (SqT.of (s2 _ _ h2)) (dps_S _), (strs_sh okp).1, (strs_sh nsOk).1, _, hd2, ?_, same_upd hD2 s2, ?_⟩⟩
    · rw [List.length_map, List.length_map, List.length_take]; omega
    · rw [upd_same, take_more ep, List.map_append, List.map_append, strs_eqv]
      rfl
  rintro H2 ⟨s2, hd2⟩
  rw [List.length_map, sw.1, List.take_length] at hd2
  refine ⟨D2, _, rfl, SqL.of hd2, (pp.map fun p => decide (p.1 = ns)).all id, rfl, ?_⟩
  have s02 := s1.trans s2
  rcases h with ⟨⟨p, mp, ne⟩, q⟩ | ⟨al, l100, q, qe⟩
  · have z : (pp.map fun p => decide (p.1 = ns)).all id = false := by
      rw [List.all_eq_false]
      exact ⟨false, List.mem_map.mpr ⟨p, mp, decide_eq_false ne⟩, by simp⟩
    rw [z]
    exact iteT (rs_c fun d H' z => q d H' (z.from s02))
  have z : (pp.map fun p => decide (p.1 = ns)).all id = true := by
    rw [List.all_eq_true]
    intro b hb
    obtain ⟨p, mp, rfl⟩ := List.mem_map.mp hb
    exact decide_eq_true (al p mp)
  rw [z]
  refine iteF ⟨_, rfl, _, rfl, t, rfl, ⟨_, SqT.of (s02 _ _ ht)⟩, fun D3 hD3 => ?_⟩
  have l1 : as.length ≤ 100 := by rw [List.length_map] at l; exact l
  have lf : ∀ i, ((pp.take i).flatMap Prod.snd).length ≤ 100 := fun i => by
    have z := congrArg (fun l => (l.flatMap Prod.snd).length) (List.take_append_drop i pp)
    simp only [List.flatMap_append, List.length_append] at z
    omega
  refine lc2_out (K := K) (a := t) (xs := as.map V.ref) (fun i H3 => Same H2 H3 ∧ ∃ bs, H3 D3 = some (.lst (bs.map V.ref)) ∧ Hands C CH H3 bs ((pp.take i).flatMap Prod.snd)) ⟨upd_new hD3, [], upd_same, .nil⟩ (fun i H3 _ z => SqT.of (z.1 _ _ (s02 _ _ ht))) ?_ ?_
  · rintro i x H3 hx ⟨s3, bs, hb, bl⟩
    obtain ⟨a, ea, rfl⟩ := map_at hx
    obtain ⟨p, ep, dy, qs, qh, qn, cs, nbs, k1, k2, k3, k4, k5, k6⟩ := (sw.same s02).get ea
    have step : (pp.take (i + 1)).flatMap Prod.snd = (pp.take i).flatMap Prod.snd ++ p.2 := by rw [take_more ep, List.flatMap_append]; simp
    refine ⟨rfl, _, rfl, a, CS, dy, _, _, rfl, s3 _ _ k1, R.cl, R.nH, fs_h _ _ _, qh, rfl, ⟨_, SqT.of (s3 _ _ k3)⟩, ?_⟩
    refine lc2_in (K := K) (b := qh) (ys := cs.map V.ref) (fun j H4 => Same H2 H4 ∧ ∃ bs, H4 D3 = some (.lst (bs.map V.ref)) ∧ Hands C CH H4 bs ((pp.take i).flatMap Prod.snd ++ p.2.take j)) ?_ ?_ ?_ ?_
    · exact ⟨s3, bs, hb, by rw [List.take_zero, List.append_nil]; exact bl⟩
    · exact fun j H4 _ z => SqT.of (z.1 _ _ k3)
    · rintro j y H4 hy ⟨s4, bs, hb, bl⟩
      obtain ⟨c, ec, rfl⟩ := map_at hy
      obtain ⟨h, eh, hat⟩ := (k4.same s4).get ec
      refine ⟨rfl, _, rfl, _, hb, ?_, same_upd hD3 s4, bs ++ [c], by rw [upd_same, List.map_append]; rfl, ?_⟩
      · have a1 := lf (i + 1)
        rw [step, List.length_append] at a1
        rw [List.length_map, bl.1, List.length_append, List.length_take]
        omega
      · rw [take_more eh, ← List.append_assoc]
        exact All2.snoc (bl.mono fun u v z => hand_upd hb z) (hand_upd hb hat)
    · rintro H4 ⟨s4, bs, hb, bl⟩
      refine ⟨s4, bs, hb, ?_⟩
      rw [List.length_map, k4.1, List.take_length] at bl
      rw [step]
      exact bl
  · rintro H3 ⟨s3, bs, hb, bl⟩
    rw [List.length_map, sw.1, List.take_length] at bl
    have s03 := s02.trans s3
    exact mk_swap (.inr (s3 _ _ (s2 _ _ h2))) (.inl hb) bl ⟨ok0.1.n2 |> fun z => by rwa [en] at z, ok0.1.n6 |> fun z => by rwa [en] at z, ok0.1.nd |> fun z => by rwa [en] at z, ok0.1.nm |> fun z => by rwa [en] at z, fun h m => by
      obtain ⟨p, mp, mh⟩ := List.mem_flatMap.mp m
      have z := (ok p mp).1.hk h mh
      rwa [al p mp] at z⟩ l100 (fun l p H4 s4 np sw => q l p H4 (s03.trans s4) (s03.free np) sw) fun l d H' z => qe l d H' (z.from s03)
theorem ok_one (G : Glob mg) (R : SwapF K CS) (M : MkS P w K mg base C CH CS CM) (B : Errs P w K mg base CW CD CI CT CU CM) (F : DefAt K "one_after" "one_after" sOneAfter f fd) :
    FnR P w K mg base (L2.CX P w) 10 f (fun vs H Q E => ∃ rest, vs = rest ∧ rest.length ≤ sizeLine ∧ ∀ p, H p = none → spOne K C CH CS CW CU CM [.ref p] (upd H p (.tup rest)) Q E) := by
  obtain ⟨oc, od, dV, kV, doc, pm, an, cdv, ct, osl, rfl, lk, hcd, hD, _⟩ := F.ex
  obtain ⟨_, rfl⟩ : ([] : List V) = [] ∧ dV = .none := by
    rcases hD with h | ⟨e, _⟩
    · exact h
    · exact absurd rfl e
  have z := StX.fn_star (ps := []) (pv := "swaps") (N := nOA) (CX := L2.CX P w) (k := 9) lk hcd scOA StX.cxUp (fun us rest hl => by
    cases us with
    | cons => cases hl
    | nil => cases rest <;> rfl) (fun A outer s H vs Q E hr h => one_body G R M B cdv A outer s H vs Q E hr h)
  refine z.imp fun vs H Q E h => ?_
  obtain ⟨rest, rfl, l, q⟩ := h
  exact ⟨[], vs, rfl, rfl, l, q⟩
end
end K5

/-! k05: the law's pen, draw, pick. -/
namespace K5
open PySem PySem.Spec PyProof.Rows L2 LamX K1 K18

/-- ** of ints of any size, the power's bits bounded -/
def CPowV (i j : Int) : Prop := 0 ≤ j ∧ j ≤ 1000 ∧ i.natAbs.log2 < 10000
theorem op_powV {X : Cx} : OpR X (binaryOp .Pow) (rI CPowV fun i j => .int (i ^ j.toNat)) := opI fun i j _ _ _ _ _ hc q => by
  obtain ⟨h0, h1, h2⟩ := hc
  have b : (Builtin.Int.intBits i : Int) ≤ 10000 := by
    have : Builtin.Int.intBits i ≤ i.natAbs.log2 + 1 := by unfold Builtin.Int.intBits; split <;> omega
    omega
  have c : (Builtin.Int.intBits i : Int) * j ≤ 10000 * 1000 := Int.le_trans (Int.mul_le_mul_of_nonneg_right b h0) (Int.mul_le_mul_of_nonneg_left h1 (by decide))
  exact pow_int h0 (Int.le_trans c (by decide)) q
/-- the pen: its cells, how many draws were begun (n at most), the rest of a great one -/
def Pen (H : Hp) (p c : Addr) (n : Nat) : Prop := ∃ (cs : List Int) (t r : Int), H p = some (.lst [.ref c, .int t, .int r]) ∧ H c = some (.lst (cs.map V.int)) ∧ cs.length ≤ 63 ∧ 0 ≤ t ∧ t ≤ n
theorem Pen.same {H H' : Hp} {p c : Addr} {n : Nat} (s : Same H H') (h : Pen H p c n) : Pen H' p c n := let ⟨cs, t, r, a, b, z⟩ := h; ⟨cs, t, r, s _ _ a, s _ _ b, z⟩
theorem Pen.mono {H : Hp} {p c : Addr} {n k : Nat} (h : Pen H p c n) (l : n ≤ k) : Pen H p c k := let ⟨cs, t, r, a, b, z, u, v⟩ := h; ⟨cs, t, r, a, b, z, u, by omega⟩
theorem Pen.upd {H : Hp} {p c a : Addr} {o : HO} {n : Nat} (h : Pen H p c n) (h1 : p ≠ a) (h2 : c ≠ a) : Pen (upd H a o) p c n := let ⟨cs, t, r, x, y, z⟩ := h; ⟨cs, t, r, (upd_ne h1).trans x, (upd_ne h2).trans y, z⟩
theorem Pen.ne {H : Hp} {p c a : Addr} {n : Nat} (h : Pen H p c n) (e : H a = none) : p ≠ a ∧ c ≠ a := let ⟨_, _, _, x, y, _⟩ := h; ⟨ne_of_none x e, ne_of_none y e⟩
def spPen (K : PySem.W.Frag) : Sp := fun vs H Q _ => ∃ (a : Addr) (ns : List Int), vs = [.ref a] ∧ SqL K H a (ns.map V.int) ∧ ns.length ≤ 63 ∧ ∀ (p c : Addr) (H' : Hp), Same H H' → H p = none → H c = none → Pen H' p c 0 → Q (.ref p) H'
def spDraw : Sp := fun vs H Q _ => ∃ (p c : Addr) (m : Int) (n : Nat), vs = [.ref p, .int m] ∧ Pen H p c n ∧ n < 100000 ∧ 0 < m ∧ m < 2 ^ 64 ∧ ∀ (r : Int) (H' : Hp), 0 ≤ r → r < m → Keep p H H' → Pen H' p c (n + 1) → Q (.int r) H'
theorem cut_in {xs : List V} {lo hi : Option Int} {i : Nat} {x : V} (h : (cutV xs lo hi)[i]? = some x) : x ∈ xs := List.mem_of_mem_drop (List.mem_of_mem_take (List.mem_of_getElem? h))
theorem cut_le {xs : List V} {lo hi : Option Int} : (cutV xs lo hi).length ≤ xs.length := by
  unfold cutV
  rw [List.length_take, List.length_drop]
  omega
section
variable {P : Program} {w : World} {K : PySem.W.Frag} {mg : Str → Option Value} {base : Heap} {f : Addr} {fd : FuncData}
abbrev nPen : List Str := ["_law_script", "_law_cell"]
theorem scPen : FnScope nPen ["_law_script"] (defScope sPen) := ⟨rfl, rfl, rfl, by decide +kernel, rfl, by decide +kernel, by decide +kernel⟩
theorem ok_pen (G : Glob mg) (F : DefAt K "_law_pen" "_law_pen" sPen f fd) : FnOk P w K mg base CX0 1 f fd ["_law_script"] (spPen K) := by
  refine okN F scPen (fun vs H Q E ⟨a, ns, e, _⟩ => by rw [e]; rfl) (fun cdv A outer s H vs Q E hr ⟨a, ns, e, sq, l, q⟩ => ?_)
  subst e
  refine ⟨_, pss_one (ps_ret (pe_lst (pa_cons
    (pe_lc (own := [("_law_cell", 1)]) (g := gName 1) (tt := tYes) rfl scPen.nd (pi_list (pe_slice sl_list (pv 0) po_none (po_some pe_int))) (blkOk_by (N := nPen) (sc := defScope sPen) (by decide +kernel))
      (fun _ _ _ _ _ => pg_name (i := 1) scPen.nd rfl (Or.inl rfl)) (fun _ _ _ _ _ => pts_nil) (fun _ _ _ _ _ => pe_callTy call_int1 (by rfl) G.int (by decide +kernel) (pa_cons (pv 1) pa_nil)))
    (pa_cons pe_int (pa_cons pe_int pa_nil))))), ?_⟩
  refine ⟨_, rfl, 60, rfl, a, _, rfl, sq, fun p0 np0 => ?_⟩
  have s0 := upd_new (o := .lst (cutV (ns.map V.int) none (some 60))) np0
  have lc : (cutV (ns.map V.int) none (some 60)).length ≤ 63 := by
    refine Nat.le_trans cut_le ?_
    rw [List.length_map]
    exact l
  refine ⟨p0, rfl, ⟨_, SqL.of upd_same⟩, fun D hD => ?_⟩
  have hp0 : upd H p0 (.lst (cutV (ns.map V.int) none (some 60))) p0 = some (.lst (cutV (ns.map V.int) none (some 60))) := upd_same
  have pD : p0 ≠ D := ne_of_none hp0 hD
  refine lc_list (K := K) (a := p0) (xs := cutV (ns.map V.int) none (some 60)) (fun i H2 => ∃ cs : List Int, cs.length = i ∧ H2 = upd (upd H p0 (.lst (cutV (ns.map V.int) none (some 60)))) D (.lst (cs.map V.int)))
    ⟨[], rfl, rfl⟩ (fun i H2 _ ⟨cs, _, e⟩ => by rw [e]; exact SqL.of ((upd_ne pD).trans hp0)) ?_ ?_
  · rintro i y H2 hy ⟨cs, lcs, rfl⟩
    obtain ⟨n, _, rfl⟩ := List.mem_map.mp (cut_in hy)
    have hi := (List.getElem?_eq_some_iff.mp hy).1
    refine ⟨rfl, yes_of ⟨_, rfl, .inl ⟨_, rfl, _, upd_same, ?_, cs ++ [n], by simp [lcs], ?_⟩⟩⟩
    · rw [List.length_map, sizeLine_eq]; omega
    · rw [upd_upd, List.map_append]
      rfl
  · rintro H2 ⟨cs, lcs, rfl⟩
    refine ⟨(by show 3 ≤ sizeLine; decide), fun p hp => ?_⟩
    have s2 : Same H (upd (upd H p0 (.lst (cutV (ns.map V.int) none (some 60)))) D (.lst (cs.map V.int))) := fun b o e => by rw [upd_ne (ne_of_none (s0 _ _ e) hD)]; exact s0 _ _ e
    refine q p D _ (s2.trans (upd_new hp)) (s2.free hp) (s0.free hD) ⟨cs, 0, 0, upd_same, upd_new hp _ _ upd_same, by omega, by decide, by decide⟩
theorem eqvAll_map {α : Type} [DecidableEq α] {f : α → PyData} (h : ∀ a b, PyData.eqv (f a) (f b) = decide (a = b)) : ∀ as bs : List α, PyData.eqvAll (as.map f) (bs.map f) = decide (as = bs)
  | [], [] => by simp [PyData.eqvAll]
  | [], _ :: _ => by simp [PyData.eqvAll]
  | _ :: _, [] => by simp [PyData.eqvAll]
  | a :: as, b :: bs => by
    rw [List.map_cons, List.map_cons, PyData.eqvAll, h, eqvAll_map h as bs]
    by_cases e : a = b <;> by_cases e2 : as = bs <;> simp [e, e2]
theorem lay_all {α : Type} {f : α → PyData} (h : ∀ a, (f a).canLay0 = true) : ∀ as : List α, PyData.canLayAll0 (as.map f) = true
  | [] => rfl
  | a :: as => by rw [List.map_cons, PyData.canLayAll0, h a, lay_all h as]; rfl
theorem deep_all {α : Type} {f : α → PyData} (h : ∀ a, (f a).depth ≤ 8) : ∀ as : List α, PyData.depthAll (as.map f) ≤ 8
  | [] => by simp [PyData.depthAll]
  | a :: as => by
    rw [List.map_cons, PyData.depthAll]
    have := h a
    have := deep_all h as
    omega
theorem shaped_tup {α : Type} {f : α → PyData} (h : ∀ a, (f a).canLay0 = true) (d : ∀ a, (f a).depth ≤ 8) (as : List α) : SeqAt.shaped (.tuple (as.map f)) = true ∧ SeqAt.shaped (.list (as.map f)) = true := by
  have l := lay_all h as
  have e := deep_all d as
  constructor
  · show (PyData.canLay0 (.tuple (as.map f)) && decide (PyData.depth (.tuple (as.map f)) ≤ 64)) = true
    rw [PyData.canLay0, l, PyData.depth, decide_eq_true (by omega)]; rfl
  · show (PyData.canLay0 (.list (as.map f)) && decide (PyData.depth (.list (as.map f)) ≤ 64)) = true
    rw [PyData.canLay0, l, PyData.depth, decide_eq_true (by omega)]; rfl
theorem dps_I {K : PySem.W.Frag} {H : Hp} : ∀ l : List Int, DpAll K H (l.map V.int) (l.map PyData.int)
  | [] => .nil
  | n :: l => .cons (.int n) (dps_I l)
theorem sh_lI (l : List Int) : SeqAt.shaped (.list (l.map PyData.int)) = true := (shaped_tup (f := PyData.int) (fun n => by simp [PyData.canLay0]) (fun n => by simp [PyData.depth]) l).2
theorem sh_tI (l : List Int) : SeqAt.shaped (.tuple (l.map PyData.int)) = true := (shaped_tup (f := PyData.int) (fun n => by simp [PyData.canLay0]) (fun n => by simp [PyData.depth]) l).1
theorem eqv_nil {l : List PyData} : PyData.eqv (.list l) (.list []) = decide (l = []) := by
  rw [PyData.eqv]
  cases l with
  | nil => simp [PyData.eqvAll]
  | cons a l => simp [PyData.eqvAll]
theorem log2_of {i : Int} {b : Nat} (h : i.natAbs < 2 ^ b) (h0 : 0 < b) (h9 : b ≤ 10000) : i.natAbs.log2 < 10000 := Nat.lt_of_lt_of_le (PySem.Flt.log2_lt_of h0 h) h9
/-- a test that only reads, whatever it says -/
theorem if_any {tt : TT} {A B C : TS} {D : Ends} {σ : L2.St} {H : Hp} (h : ∀ Q' : Bool → Hp → Prop, (∀ b, Q' b H) → tt σ H Q') (go : ∀ b : Bool, if b = true then A { D with nx := C D } σ H else B { D with nx := C D } σ H) : tSeq (tIfS tt A B) C D σ H := h _ go
/-- one name set, if so -/
theorem asg_if {b : Bool} {te : TE} {k : Nat} {D : Ends} {σ : L2.St} {H : Hp} (ok : V → Prop) (val : b = true → ∀ Q : VK, (∀ v, ok v → Q v H) → te σ H Q) (els : b = false → ∃ v, σ[k]? = some (some v) ∧ ok v) (go : ∀ v, ok v → D.nx (σ.set k (some v)) H) :
    if b = true then tAsg te (gName k) D σ H else D.nx σ H := by
  cases b with
  | true => exact iteT (val rfl _ fun v hv => go v hv)
  | false =>
    obtain ⟨v, e, hv⟩ := els rfl
    have z := go v hv
    obtain ⟨hk, e2⟩ := List.getElem?_eq_some_iff.mp e
    rw [← e2, List.set_getElem_self] at z
    exact iteF z
theorem theKeep {p : Addr} {H H' : Hp} (s : Same H H') : Keep p H H' := fun c o _ e => s c o e
abbrev nDraw : List Str := ["_law_pen_here", "_law_many", "_law_digit", "_law_at", "_law_cell", "_law_great", "_law_mixed"]
theorem scDraw : FnScope nDraw ["_law_pen_here", "_law_many"] (defScope sDraw) := ⟨rfl, rfl, rfl, by decide +kernel, rfl, by decide +kernel, by decide +kernel⟩
theorem ok_draw (G : Glob mg) (F : DefAt K "_law_draw" "_law_draw" sDraw f fd) : FnOk P w K mg base CX0 1 f fd ["_law_pen_here", "_law_many"] spDraw := by
  refine okN F scDraw (fun vs H Q E ⟨p, c, m, n, e, _⟩ => by rw [e]; rfl) (fun cdv A outer s H vs Q E hr ⟨p, c, m, n, e, sk, hn, m0, m1, q⟩ => ?_)
  subst e
  have hu64 : (A.deeper (envOfC "_law_draw" (defScope sDraw) s.heap.objs.size f cdv)).units + 64 < cLine := by have := hr.un; omega
  refine ⟨_, pss_cons (ps_if (pt_cmpR op_gt (pe_ix ix_list (pv 0) pe_int (fun _ _ => rfl)) pe_int (nomark _))
      (pss_cons (ps_set (i := 2) scDraw.nd rfl (Or.inl rfl) (pe_op op_mod (pe_callTy call_int1 (by rfl) G.int (by decide +kernel) (pa_cons (pe_ix ix_list (pv 0) pe_int (fun _ _ => rfl)) pa_nil)) (pv 1)))
      (pss_cons (ps_asg (pe_op op_fdivW (pe_callTy call_int1 (by rfl) G.int (by decide +kernel) (pa_cons (pe_ix ix_list (pv 0) pe_int (fun _ _ => rfl)) pa_nil)) (pv 1)) (pg_sub (pv 0) pe_int set_list))
      (pss_one (ps_ret (pv 2))))) pss_nil)
    (pss_cons (ps_set (i := 3) scDraw.nd rfl (Or.inl rfl) (pe_ix ix_list (pv 0) pe_int (fun _ _ => rfl)))
    (pss_cons (ps_asg (pe_op op_add (pv 3) pe_int) (pg_sub (pv 0) pe_int set_list))
    (pss_cons (ps_set (i := 4) scDraw.nd rfl (Or.inl rfl) (pe_op op_add (pe_op op_mul pe_int (pv 3)) pe_int))
    (pss_cons (ps_if (pt_cmpR (op_neD hu64) (pe_ix ix_list (pv 0) pe_int (fun _ _ => rfl)) (pe_lst pa_nil) (nomark _))
      (pss_one (ps_set (i := 4) scDraw.nd rfl (Or.inl rfl) (pe_ix ix_list (pe_ix ix_list (pv 0) pe_int (fun _ _ => rfl)) (pe_op op_mod (pe_callTy call_int1 (by rfl) G.int (by decide +kernel) (pa_cons (pv 3) pa_nil))
        (pe_callB (r := rLenA K) (call_lenA rfl) (by rfl) G.len PySem.boot_len (pa_cons (pe_ix ix_list (pv 0) pe_int (fun _ _ => rfl)) pa_nil))) (fun _ _ => rfl)))) pss_nil)
    (pss_cons (ps_if (PW.pt (pw_and (pt_cmpR op_lt (pv 3) (pe_callB (r := rLenA K) (call_lenA rfl) (by rfl) G.len PySem.boot_len (pa_cons (pe_ix ix_list (pv 0) pe_int (fun _ _ => rfl)) pa_nil)) (nomark _))
        (pw_and1 (pt_cmpR op_ge (pe_callB call_abs (by rfl) G.abs (by decide +kernel) (pa_cons (pv 4) pa_nil)) (pe_op op_pow pe_int pe_int) (nomark _)))))
      (pss_cons (ps_set (i := 5) scDraw.nd rfl (Or.inl rfl) (pe_op op_add (pe_op op_mul pe_int (pe_op op_sub (pe_callB call_abs (by rfl) G.abs (by decide +kernel) (pa_cons (pv 4) pa_nil)) (pe_op op_pow pe_int pe_int)))
        (pe_callTy call_int1 (by rfl) G.int (by decide +kernel) (pa_cons (pe_cmpR op_lt (pv 4) pe_int (nomark _)) pa_nil))))
      (pss_cons (ps_asg (pe_op op_fdivW (pe_callTy call_int1 (by rfl) G.int (by decide +kernel) (pa_cons (pv 5) pa_nil)) (pv 1)) (pg_sub (pv 0) pe_int set_list))
      (pss_one (ps_ret (pe_op op_mod (pe_callTy call_int1 (by rfl) G.int (by decide +kernel) (pa_cons (pv 5) pa_nil)) (pv 1)))))) pss_nil)
    (pss_cons (ps_set (i := 6) scDraw.nd rfl (Or.inl rfl) (pe_op op_mod (pe_callTy call_int1 (by rfl) G.int (by decide +kernel) (pa_cons
        (pe_op op_powV (pe_op op_add (pe_op op_add (pe_op op_mod (pe_callTy call_int1 (by rfl) G.int (by decide +kernel) (pa_cons (pv 4) pa_nil)) pe_int) (pe_op op_mul pe_int (pv 3))) pe_int) pe_int) pa_nil)) pe_int))
    (pss_cons (ps_set (i := 6) scDraw.nd rfl (Or.inl rfl) (pe_op op_mod (pe_callTy call_int1 (by rfl) G.int (by decide +kernel) (pa_cons
        (pe_op op_powV (pe_op op_add (pe_op op_add (pe_op op_mul (pv 6) (pe_op op_add (pe_op op_mul pe_int (pv 3)) pe_int)) (pe_op op_mul (pe_op op_mul pe_int (pv 3)) (pv 3))) pe_int) pe_int) pa_nil)) pe_int))
    (pss_one (ps_ret (pe_op op_mod (pe_callTy call_int1 (by rfl) G.int (by decide +kernel) (pa_cons (pe_op op_fdiv (pv 6) pe_int) pa_nil)) (pv 1))))))))))), ?_⟩
  obtain ⟨cs, t, r, hp, hc, lc, t0, tn⟩ := sk
  have at0 : ∀ {a b c : V}, atI [a, b, c] 0 = some a := atI_nat (j := 0) rfl
  have at1 : ∀ {a b c : V}, atI [a, b, c] 1 = some b := atI_nat (j := 1) rfl
  have at2 : ∀ {a b c : V}, atI [a, b, c] 2 = some c := atI_nat (j := 2) rfl
  have cp : c ≠ p := by
    rintro rfl
    rw [hp] at hc
    injection hc with hc
    injection hc with hc
    cases cs with
    | nil => cases hc
    | cons a l => injection hc with h1 _; cases h1
  have dv : ∀ x, CDivW x m := fun x => wide_div (b := 300) m0 (by omega) (by decide) (by decide)
  have md : ∀ x : Int, 0 ≤ x % m ∧ x % m < m := fun x => ⟨Int.emod_nonneg _ (by omega), Int.emod_lt_of_pos _ m0⟩
  have fin : ∀ (H1 : Hp) (x t' r' : Int), Keep p H H1 → H1 p = some (.lst [.ref c, .int t', .int r']) → 0 ≤ t' → t' ≤ n + 1 → Q (.int (x % m)) H1 := fun H1 x t' r' k hp' z1 z2 =>
    q (x % m) H1 (md x).1 (md x).2 k ⟨cs, t', r', hp', k c _ cp hc, lc, z1, by omega⟩
  refine ⟨_, rfl, p, _, _, _, rfl, rfl, SqL.of hp, at2, _, _, rfl, rfl, _, rfl, ?_⟩
  by_cases hr0 : (0 : Int) < r
  · rw [decide_eq_true hr0]
    refine iteT ?_
    refine ⟨_, rfl, p, _, _, _, rfl, rfl, SqL.of hp, at2, .inl ⟨_, rfl, _, rfl, _, _, rfl, rfl, m0, ?_⟩⟩
    refine ⟨_, rfl, p, _, _, _, rfl, rfl, SqL.of hp, at2, .inl ⟨_, rfl, _, rfl, _, _, rfl, rfl, dv _, _, rfl, p, _, _, 2, rfl, rfl, hp, rfl, ?_⟩⟩
    exact ⟨_, rfl, fin _ r t (r / m) Keep.upd upd_same t0 (by omega)⟩
  rw [decide_eq_false hr0]
  refine iteF ?_
  refine ⟨_, rfl, p, _, _, _, rfl, rfl, SqL.of hp, at1, ?_⟩
  refine ⟨_, rfl, _, _, rfl, rfl, _, rfl, p, _, _, 1, rfl, rfl, hp, rfl, ?_⟩
  have hp1 : upd H p (.lst ([V.ref c, .int t, .int r].set 1 (.int (t + 1)))) p = some (.lst [.ref c, .int (t + 1), .int r]) := upd_same
  generalize eH1 : upd H p (.lst ([V.ref c, .int t, .int r].set 1 (.int (t + 1)))) = H1 at hp1 ⊢
  have k1 : Keep p H H1 := eH1 ▸ Keep.upd
  have hc1 := k1 c _ cp hc
  refine ⟨_, rfl, _, _, rfl, rfl, .inl ⟨by decide, by decide⟩, _, _, rfl, rfl, ?_⟩
  refine ⟨_, rfl, p, _, _, _, rfl, rfl, SqL.of hp1, at0, (by show 0 ≤ sizeLine; omega), fun e0 ne0 => ?_⟩
  have sE := upd_new (o := .lst []) ne0
  generalize eH2 : upd H1 e0 (.lst []) = H2 at sE ⊢
  have he0 : H2 e0 = some (.lst []) := eH2 ▸ upd_same
  have hp2 := sE _ _ hp1
  have hc2 := sE _ _ hc1
  have k2 : Keep p H H2 := k1.trans (theKeep sE)
  refine ⟨.list (cs.map PyData.int), .list [], .lst (SqL.of hc2) (dps_I cs), .lst (SqL.of he0) .nil, sh_lI cs, sh_lI [], _, rfl, ?_⟩
  rw [eqv_nil]
  refine asg_if (ok := fun v => ∃ i : Int, v = .int i) (fun hb Q2 k => ?_) (fun _ => ⟨_, rfl, _, rfl⟩) ?_
  · have ne : cs ≠ [] := by
      rintro rfl
      simp at hb
    have l0 : 0 < cs.length := List.length_pos_iff.mpr ne
    have j0 := Int.emod_nonneg t (show (cs.length : Int) ≠ 0 by omega)
    have j1 := Int.emod_lt_of_pos t (show (0 : Int) < cs.length by omega)
    refine ⟨_, rfl, p, _, _, _, rfl, rfl, SqL.of hp2, at0, ?_⟩
    refine ⟨_, rfl, .inl ⟨_, rfl, _, rfl, p, _, _, _, rfl, rfl, SqL.of hp2, at0, c, _, rfl, .inl (SqL.of hc2), ?_⟩⟩
    rw [List.length_map]
    refine ⟨_, _, rfl, rfl, (by omega), c, _, _, .int (cs.getD (t % (cs.length : Int)).toNat 0), rfl, rfl, SqL.of hc2, ?_, k _ ⟨_, rfl⟩⟩
    have e := atI_nat (xs := cs.map V.int) (j := (t % (cs.length : Int)).toNat) (v := .int (cs.getD (t % (cs.length : Int)).toNat 0)) (by
      rw [List.getElem?_map, List.getElem?_eq_getElem (by omega), List.getD_eq_getElem?_getD, List.getElem?_eq_getElem (by omega)]
      rfl)
    rwa [Int.toNat_of_nonneg j0] at e
  rintro _ ⟨v, rfl⟩
  dsimp only
  refine if_any (fun Q' k => ?_) fun b => ?_
  · refine ⟨_, rfl, _, rfl, p, _, _, _, rfl, rfl, SqL.of hp2, at0, c, _, rfl, .inl (SqL.of hc2), _, _, rfl, rfl, _, rfl, ?_⟩
    by_cases hb : t < (((cs.map V.int).length : Nat) : Int)
    · rw [decide_eq_true hb]
      exact iteT ⟨_, rfl, _, rfl, _, _, rfl, rfl, ⟨by decide, by decide, by decide⟩, _, _, rfl, rfl, _, rfl, k _⟩
    · rw [decide_eq_false hb]
      exact iteF (k _)
  have np : t * 41039 ≤ 100000 * 41039 := by omega
  cases b with
  | true =>
    refine iteT ⟨_, rfl, _, rfl, _, _, rfl, rfl, ⟨by decide, by decide, by decide⟩, _, _, rfl, rfl, _, _, rfl, rfl, .inl ⟨by decide, by decide⟩, ?_⟩
    refine ⟨_, rfl, _, _, rfl, rfl, .inr ⟨_, rfl, _, _, rfl, rfl, ?_⟩⟩
    refine ⟨_, rfl, .inl ⟨_, rfl, _, rfl, _, _, rfl, rfl, dv _, _, rfl, p, _, _, 2, rfl, rfl, hp2, rfl, ?_⟩⟩
    refine ⟨_, rfl, .inl ⟨_, rfl, _, rfl, _, _, rfl, rfl, m0, ?_⟩⟩
    exact fin _ _ (t + 1) _ (k2.trans Keep.upd) upd_same (by omega) (by omega)
  | false =>
    have a0 := Int.emod_nonneg v (show (2147483579 : Int) ≠ 0 by decide)
    have a1 := Int.emod_lt_of_pos v (show (0 : Int) < 2147483579 by decide)
    refine iteF ⟨_, rfl, .inl ⟨_, rfl, _, _, rfl, rfl, (show (0 : Int) < 2147483579 by decide), _, rfl, _, _, rfl, rfl, .inl ⟨by decide, by decide⟩, _, _, rfl, rfl, _, _, rfl, rfl, ?_⟩⟩
    have l1 : (v % 2147483579 + 53047 * t + 1483).natAbs < 2 ^ 64 := by omega
    refine ⟨_, _, rfl, rfl, ⟨by decide, by decide, log2_of l1 (by decide) (by decide)⟩, .inl ⟨_, rfl, _, _, rfl, rfl, (show (0 : Int) < 2147483647 by decide), ?_⟩⟩
    generalize (v % 2147483579 + 53047 * t + 1483) ^ Int.toNat 5 = z
    have b0 := Int.emod_nonneg z (show (2147483647 : Int) ≠ 0 by decide)
    have b1 := Int.emod_lt_of_pos z (show (0 : Int) < 2147483647 by decide)
    refine ⟨_, rfl, _, rfl, _, _, rfl, rfl, .inl ⟨by decide, by decide⟩, _, _, rfl, rfl, _, _, rfl, rfl, .inl ⟨by omega, by omega⟩, ?_⟩
    refine ⟨_, rfl, _, _, rfl, rfl, .inl ⟨by decide, by decide⟩, _, rfl, _, _, rfl, rfl, .inr ⟨by omega, by omega⟩, _, _, rfl, rfl, _, _, rfl, rfl, ?_⟩
    have e1 : 0 ≤ z % 2147483647 * (2 * t + 1741) ∧ z % 2147483647 * (2 * t + 1741) ≤ 2147483647 * 201741 := ⟨Int.mul_nonneg b0 (by omega), Int.mul_le_mul (by omega) (by omega) (by omega) (by decide)⟩
    have e2 : 0 ≤ 41039 * t * t ∧ 41039 * t * t ≤ 41039 * 100000 * 100000 := ⟨Int.mul_nonneg (by omega) t0, Int.mul_le_mul (by omega) (by omega) (by omega) (by decide)⟩
    have l2 : (z % 2147483647 * (2 * t + 1741) + 41039 * t * t + 53047).natAbs < 2 ^ 100 := by omega
    refine ⟨_, _, rfl, rfl, ⟨by decide, by decide, log2_of l2 (by decide) (by decide)⟩, .inl ⟨_, rfl, _, _, rfl, rfl, (show (0 : Int) < 2147483549 by decide), ?_⟩⟩
    refine ⟨_, rfl, _, _, rfl, rfl, ⟨by decide, by decide⟩, .inl ⟨_, rfl, _, rfl, _, _, rfl, rfl, m0, ?_⟩⟩
    exact fin _ _ (t + 1) _ k2 hp2 (by omega) (by omega)
end
end K5

/-! k05: the law's pick; texts by their signs. -/
namespace K5
open PySem PySem.Spec PyProof.Rows L2 LamX K1 K18

abbrev S (l : List Nat) : Str := SX.S l
abbrev HasDraw (P : Program) (w : World) (K : PySem.W.Frag) (mg : Str → Option Value) (base : Heap) : Prop := Has P w K mg base CX0 1 "_law_draw" ["_law_pen_here", "_law_many"] spDraw
def spPick : Sp := fun vs H Q _ => ∃ (p c b : Addr) (xs : List V) (n : Nat), vs = [.ref p, .ref b] ∧ SqA H b xs ∧ b ≠ p ∧ 0 < xs.length ∧ xs.length < 1000 ∧ Pen H p c n ∧ n < 100000 ∧ ∀ (i : Nat) (x : V) (H' : Hp), xs[i]? = some x → Keep p H H' → Pen H' p c (n + 1) → Q x H'
def spPickS : Sp := fun vs H Q _ => ∃ (p c : Addr) (l : List Nat) (n : Nat), vs = [.ref p, .str (S l)] ∧ 0 < l.length ∧ l.length < 1000 ∧ Pen H p c n ∧ n < 100000 ∧ ∀ (d : Nat) (H' : Hp), d ∈ l → Keep p H H' → Pen H' p c (n + 1) → Q (.str (S [d])) H'
abbrev HasPick (P : Program) (w : World) (K : PySem.W.Frag) (mg : Str → Option Value) (base : Heap) : Prop := Has P w K mg base CX0 2 "_law_pick" ["_law_pen_here", "_law_some"] spPick
abbrev HasPickS (P : Program) (w : World) (K : PySem.W.Frag) (mg : Str → Option Value) (base : Heap) : Prop := Has P w K mg base CX0 2 "_law_pick" ["_law_pen_here", "_law_some"] spPickS
section
variable {P : Program} {w : World} {K : PySem.W.Frag} {mg : Str → Option Value} {base : Heap} {f : Addr} {fd : FuncData}
theorem scPick : FnScope ["_law_pen_here", "_law_some"] ["_law_pen_here", "_law_some"] (defScope sPick) := ⟨rfl, rfl, rfl, by decide +kernel, rfl, by decide +kernel, by decide +kernel⟩
theorem ok_pick (G : Glob mg) (HT : HasDraw P w K mg base) (F : DefAt K "_law_pick" "_law_pick" sPick f fd) : FnOk P w K mg base CX0 2 f fd ["_law_pen_here", "_law_some"] spPick := by
  obtain ⟨ft, fdt, mT, kT, bT, GT⟩ := HT.h
  refine okN F scPick (fun vs H Q E ⟨p, c, b, xs, n, e, _⟩ => by rw [e]; rfl) (fun cdv A outer s H vs Q E hr ⟨p, c, b, xs, n, e, sq, bp, l0, l1, sk, hn, q⟩ => ?_)
  subst e
  refine ⟨_, pss_one (ps_ret (pe_ix ix_seq (pv 1) (pe_call GT hr rfl mT kT bT .nil pass0 (pa_cons (pv 0) (pa_cons (pe_callB (r := rLenA K) (call_lenA rfl) (by rfl) G.len PySem.boot_len (pa_cons (pv 1) pa_nil)) pa_nil))) (fun _ _ => rfl))), ?_⟩
  refine ⟨_, rfl, _, rfl, _, rfl, b, xs, rfl, sq.imp SqL.of SqT.of, p, c, _, n, rfl, sk, hn, by omega, by omega, fun r H' r0 r1 k s' => ?_⟩
  obtain ⟨j, rfl⟩ := Int.eq_ofNat_of_zero_le r0
  have hj : j < xs.length := by omega
  have z := q j _ H' (List.getElem?_eq_getElem hj) k s'
  rcases sq with sq | sq
  · exact .inl ⟨b, xs, j, _, rfl, rfl, SqL.of (k b _ bp sq), atI_nat (List.getElem?_eq_getElem hj), z⟩
  · exact .inr (.inl ⟨b, xs, j, _, rfl, rfl, SqT.of (k b _ bp sq), atI_nat (List.getElem?_eq_getElem hj), z⟩)
theorem ok_pickS (G : Glob mg) (HT : HasDraw P w K mg base) (F : DefAt K "_law_pick" "_law_pick" sPick f fd) : FnOk P w K mg base CX0 2 f fd ["_law_pen_here", "_law_some"] spPickS := by
  obtain ⟨ft, fdt, mT, kT, bT, GT⟩ := HT.h
  refine okN F scPick (fun vs H Q E ⟨p, c, l, n, e, _⟩ => by rw [e]; rfl) (fun cdv A outer s H vs Q E hr ⟨p, c, l, n, e, l0, l1, sk, hn, q⟩ => ?_)
  subst e
  refine ⟨_, pss_one (ps_ret (pe_ix ix_str (pv 1) (pe_call GT hr rfl mT kT bT .nil pass0 (pa_cons (pv 0) (pa_cons (pe_callB call_len_str (by rfl) G.len PySem.boot_len (pa_cons (pv 1) pa_nil)) pa_nil))) (fun _ _ => rfl))), ?_⟩
  have sz : sizeLine = 16777216 := sizeLine_eq
  have z1 : (S l).length = l.length := SX.S_len _
  refine ⟨_, rfl, _, rfl, _, rfl, _, rfl, by omega, p, c, _, n, rfl, sk, hn, by omega, by omega, fun r H' r0 r1 k s' => ?_⟩
  obtain ⟨j, rfl⟩ := Int.eq_ofNat_of_zero_le r0
  have hj : j < l.length := by omega
  exact ⟨S l, j, l[j], rfl, rfl, by omega, atI_nat (List.getElem?_eq_getElem hj), q _ H' (List.getElem_mem _) k s'⟩
end
/-! ### names that are drawn -/
def okA (c : Nat) : Bool := isL c || isD c
/-- a text that begins with a small letter, of small letters and digits -/
structure Nl (l : List Nat) : Prop where
  hd : ∃ c, l[0]? = some c ∧ isL c = true
  al : ∀ c ∈ l, okA c = true
theorem Nl.nm {l : List Nat} (h : Nl l) (l12 : l.length ≤ 12) : Nm (S l) := by
  obtain ⟨c, hc, lc⟩ := h.hd
  have := (List.getElem?_eq_some_iff.mp hc).1
  exact ⟨by rw [show (S l).length = l.length from SX.S_len _]; omega, by rw [show (S l).length = l.length from SX.S_len _]; exact l12, ⟨c, hc, lc⟩, fun d m => by
    have := h.al d m
    unfold okA at this
    exact Bool.or_eq_true_iff.mp this⟩
theorem Nl.app {l m : List Nat} (h : Nl l) (k : ∀ c ∈ m, okA c = true) : Nl (l ++ m) := by
  obtain ⟨c, hc, lc⟩ := h.hd
  refine ⟨⟨c, ?_, lc⟩, fun d md => (List.mem_append.mp md).elim (h.al d) (k d)⟩
  rw [List.getElem?_append_left (List.getElem?_eq_some_iff.mp hc).1]
  exact hc
def ends : List Nat := [97, 122, 48, 109, 107, 52]
/-- as the law draws names -/
def Drwn (n : Str) : Prop := ∃ l, n = S l ∧ Nl l ∧ (l.length ≤ 9 ∨ ∃ st s, l = st ++ [s] ∧ st.length = 11 ∧ s ∈ ends)
theorem Drwn.nm {n : Str} (h : Drwn n) : Nm n := by
  obtain ⟨l, rfl, nl, h⟩ := h
  refine nl.nm ?_
  rcases h with h | ⟨st, s, rfl, h, _⟩
  · omega
  · rw [List.length_append]; simp; omega
structure DrL (ns : List Str) (m : Nat) : Prop where
  len : ns.length = m
  nd : ns.Nodup
  dr : ∀ n ∈ ns, Drwn n
theorem joinL_nil : ∀ ps : List (List Nat), TL.joinL [] ps = ps.flatten
  | [] => rfl
  | [p] => by simp [TL.joinL]
  | p :: q :: r => by
    show p ++ ([] ++ TL.joinL [] (q :: r)) = _
    rw [joinL_nil (q :: r)]
    simp
theorem flat_one : ∀ l : List Nat, (l.map fun d => [d]).flatten = l
  | [] => rfl
  | a :: r => by simp [flat_one r]
/-- ''.join of one-sign texts -/
theorem join_one (l : List Nat) : Txt.join (S []) (l.map fun d => S [d]) = S l := by
  have z := SX.join_S [] (l.map fun d => [d])
  rw [joinL_nil, flat_one, List.map_map] at z
  exact z
theorem in_small {d : Nat} (h : d ∈ (Str.ofString "abcdefghijklmnopqrstuvwxyz").cps.toList) : isL d = true := by rw [← in_let]; exact decide_eq_true h
theorem in_signs {d : Nat} (h : d ∈ (Str.ofString "abcdefghijklmnopqrstuvwxyz0123456789").cps.toList) : okA d = true := by
  have e : (Str.ofString "abcdefghijklmnopqrstuvwxyz0123456789").cps.toList = (Str.ofString "abcdefghijklmnopqrstuvwxyz").cps.toList ++ (Str.ofString "0123456789").cps.toList := by decide +kernel
  rw [e] at h
  unfold okA
  rw [Bool.or_eq_true_iff, ← in_let, ← in_dig]
  exact (List.mem_append.mp h).imp decide_eq_true decide_eq_true
end K5

/-! k05: the law's names. -/
namespace K5
open PySem PySem.Spec PyProof.Rows L2 LamX K1 K18

def spLNames : Sp := fun vs H Q _ => ∃ (p c : Addr) (m n : Nat), vs = [.ref p, .int m] ∧ m ≤ 6 ∧ Pen H p c n ∧ n + 60 < 100000 ∧ ∀ (d : Addr) (ns : List Str) (H' : Hp), DrL ns m → Keep p H H' → H d = none → H' d = some (.lst (ns.map V.str)) → Pen H' p c (n + 50) → Q (.ref d) H'
abbrev nNames : List Str := ["_law_pen_here", "_law_many", "_law_small", "_law_signs", "_law_names_here", "_law_stem", "_law_sign", "_law_turn", "_law_name", "_law_at"]
abbrev aSmall : List Nat := (Str.ofString "abcdefghijklmnopqrstuvwxyz").cps.toList
abbrev aSigns : List Nat := (Str.ofString "abcdefghijklmnopqrstuvwxyz0123456789").cps.toList
theorem S_of (x : Str) : S x.cps.toList = x := SX.S_tl x
theorem small_len : aSmall.length = 26 := by decide +kernel
theorem signs_len : aSigns.length = 36 := by decide +kernel
/-- too many texts met: no room among so few names -/
theorem met_few {ns : List Str} {l : List Nat} {ps : List (List Nat)} (nd : ps.Nodup) (mem : ∀ x ∈ ps, S x ∈ ns) (hl : S l ∈ ns) (lt : ∀ x ∈ ps, x.length < l.length) (few : ns.length ≤ ps.length) : False := by
  have nd2 : ((l :: ps).map S).Nodup := by
    refine List.pairwise_map.mpr ((List.nodup_cons.mpr ⟨fun m => ?_, nd⟩).imp fun {x y} ne z => ne (SX.S_inj z))
    have := lt l m
    omega
  have := List.Nodup.length_le_of_subset nd2 (l₂ := ns) fun x hx => by
    obtain ⟨y, hy, rfl⟩ := List.mem_map.mp hx
    rcases List.mem_cons.mp hy with rfl | hy
    · exact hl
    · exact mem y hy
  rw [List.length_map, List.length_cons] at this
  omega
section
variable {P : Program} {w : World} {K : PySem.W.Frag} {mg : Str → Option Value} {base : Heap} {f : Addr} {fd : FuncData}
theorem scNames_ : FnScope nNames ["_law_pen_here", "_law_many"] (defScope sNames) := ⟨rfl, rfl, rfl, by decide +kernel, rfl, by decide +kernel, by decide +kernel⟩
theorem ok_lnames (G : Glob mg) (HT : HasDraw P w K mg base) (HP : HasPickS P w K mg base) (F : DefAt K "_law_names" "_law_names" sNames f fd) : FnOk P w K mg base CX0 3 f fd ["_law_pen_here", "_law_many"] spLNames := by
  obtain ⟨ft, fdt, mT, kT, bT, GT⟩ := HT.h
  obtain ⟨fp, fdp, mP, kP_, bP, GP⟩ := HP.h
  refine okN F scNames_ (fun vs H Q E ⟨p, c, m, n, e, _⟩ => by rw [e]; rfl) (fun cdv A outer s H vs Q E hr ⟨p, c, m, n, e, hm, pn, hn, q⟩ => ?_)
  subst e
  have r1 := hr.mono (show 1 ≤ 2 by decide)
  refine ⟨_, pss_cons (ps_asg (pe_tup (pa_cons pe_str (pa_cons pe_str (pa_cons (pe_lst pa_nil) pa_nil)))) (pg_tup (by rfl) (pgs_cons (pg_name (i := 2) scNames_.nd rfl (Or.inl rfl)) (pgs_cons (pg_name (i := 3) scNames_.nd rfl (Or.inr rfl)) (pgs_cons (pg_name (i := 4) scNames_.nd rfl (Or.inl rfl)) pgs_nil)))))
    (pss_cons (ps_if (pt_cmpR op_eq (pe_call GT r1 rfl mT kT bT .nil pass0 (pa_cons (pv 0) (pa_cons pe_int pa_nil))) pe_int (nomark _))
      (pss_cons (ps_set (i := 5) scNames_.nd rfl (Or.inr rfl) (pe_op op_add_str (pe_call GP hr rfl mP kP_ bP .nil pass0 (pa_cons (pv 0) (pa_cons (pv 2) pa_nil))) (pe_join pe_str
          (pe_lc (own := [("_law_at", 9)]) (g := gName 9) (tt := tYes) rfl scNames_.nd (pi_range1 (by rfl) G.range (pa_cons pe_int pa_nil)) (blkOk_by (N := nNames) (sc := defScope sNames) (by decide +kernel))
            (fun _ _ _ _ _ => pg_name (i := 9) scNames_.nd rfl (Or.inl rfl)) (fun _ _ _ _ _ => pts_nil) (fun _ _ _ _ _ => pe_call GP hr rfl mP kP_ bP .nil pass0 (pa_cons (pv 0) (pa_cons (pv 3) pa_nil)))))))
      (pss_one (ps_ret (pe_lc (own := [("_law_sign", 6)]) (g := gName 6) (tt := tYes) rfl scNames_.nd (pi_str (pe_slice sl_str pe_str po_none (po_some (pv 1)))) (blkOk_by (N := nNames) (sc := defScope sNames) (by decide +kernel))
            (fun _ _ _ _ _ => pg_name (i := 6) scNames_.nd rfl (Or.inl rfl)) (fun _ _ _ _ _ => pts_nil) (fun _ _ _ _ _ => pe_op op_add_str (pv 5) (pv 6)))))) pss_nil)
    (pss_cons (ps_for PassesOwn.never rfl (pi_range1 (by rfl) G.range (pa_cons (pv 1) pa_nil)) (pg_name (i := 7) scNames_.nd rfl (Or.inl rfl))
      (pss_cons (ps_set (i := 8) scNames_.nd rfl (Or.inl rfl) (pe_op op_add_str (pe_call GP hr rfl mP kP_ bP .nil pass0 (pa_cons (pv 0) (pa_cons (pv 2) pa_nil))) (pe_join pe_str
          (pe_lc (own := [("_law_at", 9)]) (g := gName 9) (tt := tYes) rfl scNames_.nd (pi_range1 (by rfl) G.range (pa_cons (pe_call GT r1 rfl mT kT bT .nil pass0 (pa_cons (pv 0) (pa_cons pe_int pa_nil))) pa_nil)) (blkOk_by (N := nNames) (sc := defScope sNames) (by decide +kernel))
            (fun _ _ _ _ _ => pg_name (i := 9) scNames_.nd rfl (Or.inl rfl)) (fun _ _ _ _ _ => pts_nil) (fun _ _ _ _ _ => pe_call GP hr rfl mP kP_ bP .nil pass0 (pa_cons (pv 0) (pa_cons (pv 3) pa_nil)))))))
      (pss_cons (ps_for PassesOwn.never rfl (pi_str pe_str) (pg_name (i := 6) scNames_.nd rfl (Or.inl rfl))
        (pss_one (ps_set (i := 8) scNames_.nd rfl (Or.inl rfl) (pe_ifExp (pt_cmpR op_in_seq (pv 8) (pv 4) (by rfl)) (pe_op op_add_str (pv 8) (pv 6)) (pv 8)))))
      (pss_one (ps_expr (pe_bm PySem.F.plainAttrs_list PySem.F.slot_list_append PySem.F.type_list_append mt_append (pv 4) (pa_cons (pv 8) pa_nil)))))))
    (pss_one (ps_ret (pv 4))))), ?_⟩
  have sz : sizeLine = 16777216 := sizeLine_eq
  refine ⟨(by show 0 ≤ sizeLine; omega), fun d nd => ⟨(by show 3 ≤ sizeLine; omega), fun T nT => ?_⟩⟩
  have s1 := upd_new (o := .lst []) nd
  have hd1 : upd H d (.lst []) d = some (.lst []) := upd_same
  generalize upd H d (.lst []) = H1 at s1 hd1 nT ⊢
  have s2 := upd_new (o := .tup [V.str "abcdefghijklmnopqrstuvwxyz", .str "abcdefghijklmnopqrstuvwxyz0123456789", .ref d]) nT
  have hT : upd H1 T (.tup [V.str "abcdefghijklmnopqrstuvwxyz", .str "abcdefghijklmnopqrstuvwxyz0123456789", .ref d]) T = some (.tup [V.str "abcdefghijklmnopqrstuvwxyz", .str "abcdefghijklmnopqrstuvwxyz0123456789", .ref d]) := upd_same
  generalize upd H1 T (.tup [V.str "abcdefghijklmnopqrstuvwxyz", .str "abcdefghijklmnopqrstuvwxyz0123456789", .ref d]) = H2 at s2 hT ⊢
  have hd2 := s2 _ _ hd1
  have s12 := s1.trans s2
  refine ⟨T, _, rfl, SqT.of hT, rfl, _, _, rfl, _, _, rfl, _, _, rfl, rfl, ?_⟩
  have pn2 := pn.same s12
  have dp : d ≠ p := (pn.ne nd).1.symm
  have k2 : Keep p H H2 := theKeep s12
  show tSeq _ _ _ [some (V.ref p), some (.int m), some (.str (S aSmall)), some (.str (S aSigns)), some (.ref d), none, none, none, none, none] H2
  refine ⟨_, rfl, p, c, 6, n, rfl, pn2, by omega, by decide, by decide, fun r H3 r0 r1 k3 pn3 => ⟨rfl, decide (r = 0), by rw [decI], ?_⟩⟩
  have hd3 := k3 _ _ dp hd2
  by_cases er : r = 0
  · rw [decide_eq_true er]
    refine iteT ⟨_, rfl, _, rfl, p, c, aSmall, _, rfl, by rw [small_len]; decide, by rw [small_len]; decide, pn3, by omega, fun a H4 ha k4 pn4 => ?_⟩
    refine ⟨⟨_, rfl⟩, 10, rfl, by decide, by decide, fun D hD => ?_⟩
    have k24 := k2.trans (k3.trans k4)
    have hd4 := k4 _ _ dp hd3
    refine lc_range (lo := 0) (n := (10 : Int).toNat) (fun i H5 => ∃ l : List Nat, l.length = i ∧ (∀ c ∈ l, okA c = true) ∧ H5 D = some (.lst (l.map fun d => V.str (S [d]))) ∧ Keep p H4 H5 ∧ Pen H5 p c (n + 2 + i))
      ⟨[], rfl, by simp, upd_same, theKeep (upd_new hD), pn4.same (upd_new hD)⟩ ?_ ?_
    · rintro i H5 hi ⟨l, ll, al, h5, k5, pn5⟩
      refine ⟨rfl, yes_of ⟨_, rfl, _, rfl, p, c, aSigns, _, rfl, by rw [signs_len]; decide, by rw [signs_len]; decide, pn5, by omega, fun b H6 hb k6 pn6 => ?_⟩⟩
      have Dp : D ≠ p := (pn4.ne hD).1.symm
      have h6 := k6 _ _ Dp h5
      refine ⟨_, h6, by rw [List.length_map]; omega, l ++ [b], by simp [ll], fun x hx => ?_, by rw [upd_same, List.map_append]; rfl, fun x o nx e => ?_, ?_⟩
      · rcases List.mem_append.mp hx with hx | hx
        · exact al x hx
        · rw [List.mem_singleton.mp hx]; exact in_signs hb
      · rw [upd_ne (ne_of_none e hD)]
        exact k6 _ _ nx (k5 _ _ nx e)
      · obtain ⟨z1, z2⟩ := pn4.ne hD
        exact (pn6.upd z1 z2).mono (by omega)
    rintro H5 ⟨l, ll, al, h5, k5, pn5⟩
    have len1 : ((l.map fun d => S [d]).map (·.length)).sum + (l.map fun d => S [d]).length * (S []).length ≤ 16777216 := by
      rw [List.map_map]
      have e1 : ((l.map ((·.length) ∘ fun d => S [d])).sum) = l.length := by
        clear h5 ll al
        induction l with
        | nil => rfl
        | cons a r ih => rw [List.map_cons, List.sum_cons, ih, List.length_cons]; show 1 + r.length = _; omega
      rw [e1, ll, show (S []).length = 0 from rfl, Nat.mul_zero]
      decide
    refine ⟨S [], D, l.map fun d => S [d], rfl, rfl, .inl (SqL.of (by rw [h5, List.map_map]; rfl)), len1, ?_⟩
    rw [join_one]
    have ll10 : l.length = 10 := ll
    refine ⟨_, _, rfl, rfl, (by show (S [a]).length + (S l).length ≤ sizeLine; rw [SX.S_len, SX.S_len, ll10]; simp; omega), ?_⟩
    rw [show S [a] ++ S l = S ([a] ++ l) from SX.S_cat _ _]
    have nl : Nl ([a] ++ l) := ⟨⟨a, rfl, in_small ha⟩, fun x hx => (List.mem_append.mp hx).elim (fun z => by rw [List.mem_singleton.mp z]; unfold okA; rw [in_small ha]; rfl) (al x)⟩
    have cut : cutS (Str.ofString "az0mk4") none (some (m : Int)) = S (ends.take m) := by
      have e : Str.ofString "az0mk4" = S ends := by decide +kernel
      rw [e, C8.cutS_slice, SX.slice_to (by omega), Int.toNat_natCast]
    refine ⟨_, rfl, _, rfl, _, rfl, (by show (Str.ofString "az0mk4").length ≤ sizeLine; rw [show (Str.ofString "az0mk4").length = 6 by decide +kernel]; omega), ?_⟩
    rw [cut]
    refine ⟨_, rfl, fun D2 hD2 => ?_⟩
    have el : (ends.take m).length = m := by rw [List.length_take]; show min m 6 = m; omega
    refine lc_it walk_str (fun i H6 => Same H5 H6 ∧ H6 D2 = some (.lst (((ends.take m).take i).map fun s => V.str (S ([a] ++ l ++ [s]))))) ⟨upd_new hD2, upd_same⟩ (fun _ _ _ _ => trivial) ?_ ?_
    · rintro i x H6 H7 hi ⟨s6, h6⟩ ⟨rfl, s, hs, rfl⟩
      have es : (ends.take m)[i]? = some s := by simpa using hs
      refine ⟨rfl, yes_of ⟨_, rfl, _, rfl, _, _, rfl, rfl, (by show (S ([a] ++ l)).length + (S [s]).length ≤ sizeLine; rw [SX.S_len, SX.S_len, List.length_append, ll10]; simp; omega), _, h6, ?_, same_upd hD2 s6, ?_⟩⟩
      · rw [List.length_map, List.length_take, el]; omega
      · rw [upd_same, take_more es, List.map_append, show S ([a] ++ l) ++ S [s] = S ([a] ++ l ++ [s]) from SX.S_cat _ _]
        rfl
    rintro H6 ⟨s6, h6⟩
    have sz2 : (S (ends.take m)).cps.size = (ends.take m).length := SX.S_len _
    rw [sz2, List.take_length] at h6
    have pn6 := pn5.same s6
    have nD2 : H D2 = none := by
      cases e : H D2 with
      | none => rfl
      | some o =>
        have n2 : D2 ≠ p := by
          rintro rfl
          obtain ⟨_, _, _, x, _⟩ := pn5
          rw [hD2] at x
          cases x
        have := k5 _ _ n2 (k24 _ _ n2 e)
        rw [hD2] at this
        cases this
    refine q D2 ((ends.take m).map fun s => S ([a] ++ l ++ [s])) H6 ⟨by rw [List.length_map, el], ?_, ?_⟩ (k24.trans (k5.trans (theKeep s6))) nD2 (by rw [h6, List.map_map]; rfl) (pn6.mono (by have : (10 : Int).toNat = 10 := rfl; omega))
    · have e6 : ends.Nodup := by decide
      refine List.pairwise_map.mpr ((e6.sublist (List.take_sublist _ _)).imp fun {x y} ne z => ne ?_)
      have := SX.S_inj z
      simpa using this
    · intro x hx
      obtain ⟨s, hs, rfl⟩ := List.mem_map.mp hx
      refine ⟨_, rfl, nl.app fun c hc => ?_, .inr ⟨[a] ++ l, s, rfl, by rw [List.length_append, ll10]; rfl, List.mem_of_mem_take hs⟩⟩
      rw [List.mem_singleton.mp hc]
      have al : ends.all okA = true := by decide
      exact List.all_eq_true.mp al s (List.mem_of_mem_take hs)
  · rw [decide_eq_false er]
    refine iteF ⟨_, rfl, (m : Int), rfl, by omega, by omega, ?_⟩
    refine for_range (lo := 0) (n := (m : Int).toNat) (fun i σ H4 => ∃ (ns : List Str) (z6 z7 z8 : Option V), σ = [some (V.ref p), some (.int m), some (.str (S aSmall)), some (.str (S aSigns)), some (.ref d), none, z6, z7, z8, none] ∧ DrL ns i ∧ Keep p H H4 ∧ H4 d = some (.lst (ns.map V.str)) ∧ Pen H4 p c (n + 1 + 8 * i))
      ⟨[], none, none, none, rfl, ⟨rfl, by simp, by simp⟩, k2.trans k3, hd3, pn3⟩ ?_ ?_
    · rintro i σ H4 hi ⟨ns, z6, z7, z8, rfl, dr, k4, hd4, pn4⟩
      have him : i < m := hi
      have lns := dr.len
      refine ⟨_, rfl, _, rfl, p, c, aSmall, _, rfl, by rw [small_len]; decide, by rw [small_len]; decide, pn4, by omega, fun a H5 ha k5 pn5 => ?_⟩
      have hd5 := k5 _ _ dp hd4
      refine ⟨⟨_, rfl⟩, _, rfl, p, c, 4, _, rfl, pn5, by omega, by decide, by decide, fun r2 H6 r20 r21 k6 pn6 => ⟨r2, rfl, by omega, by omega, fun D hD => ?_⟩⟩
      have hd6 := k6 _ _ dp hd5
      obtain ⟨e2, rfl⟩ := Int.eq_ofNat_of_zero_le r20
      have he2 : e2 < 4 := by omega
      have Dp : D ≠ p := (pn6.ne hD).1.symm
      have dD : d ≠ D := ne_of_none hd6 hD
      refine lc_range (lo := 0) (n := (e2 : Int).toNat) (fun j H7 => ∃ l : List Nat, l.length = j ∧ (∀ c ∈ l, okA c = true) ∧ H7 D = some (.lst (l.map fun d => V.str (S [d]))) ∧ Keep p H6 H7 ∧ Pen H7 p c (n + 1 + 8 * i + 2 + j))
        ⟨[], rfl, by simp, upd_same, theKeep (upd_new hD), pn6.same (upd_new hD)⟩ ?_ ?_
      · rintro j H7 hj ⟨l, ll, al, h7, k7, pn7⟩
        have hj2 : j < e2 := hj
        refine ⟨rfl, yes_of ⟨_, rfl, _, rfl, p, c, aSigns, _, rfl, by rw [signs_len]; decide, by rw [signs_len]; decide, pn7, by omega, fun b H8 hb k8 pn8 => ?_⟩⟩
        have h8 := k8 _ _ Dp h7
        refine ⟨_, h8, by rw [List.length_map]; omega, l ++ [b], by simp [ll], fun x hx => ?_, by rw [upd_same, List.map_append]; rfl, fun x o nx e => ?_, ?_⟩
        · rcases List.mem_append.mp hx with hx | hx
          · exact al x hx
          · rw [List.mem_singleton.mp hx]; exact in_signs hb
        · rw [upd_ne (ne_of_none e hD)]
          exact k8 _ _ nx (k7 _ _ nx e)
        · obtain ⟨y1, y2⟩ := pn6.ne hD
          exact (pn8.upd y1 y2).mono (by omega)
      rintro H7 ⟨l, ll, al, h7, k7, pn7⟩
      have ll2 : l.length = e2 := ll
      have len1 : ((l.map fun d => S [d]).map (·.length)).sum + (l.map fun d => S [d]).length * (S []).length ≤ 16777216 := by
        rw [List.map_map]
        have e1 : ((l.map ((·.length) ∘ fun d => S [d])).sum) = l.length := by
          clear h7 ll al ll2
          induction l with
          | nil => rfl
          | cons a r ih => rw [List.map_cons, List.sum_cons, ih, List.length_cons]; show 1 + r.length = _; omega
        rw [e1, ll2, show (S []).length = 0 from rfl, Nat.mul_zero]
        omega
      refine ⟨S [], D, l.map fun d => S [d], rfl, rfl, .inl (SqL.of (by rw [h7, List.map_map]; rfl)), len1, ?_⟩
      rw [join_one]
      refine ⟨_, _, rfl, rfl, (by show (S [a]).length + (S l).length ≤ sizeLine; rw [SX.S_len, SX.S_len, ll2]; simp; omega), ?_⟩
      rw [show S [a] ++ S l = S ([a] ++ l) from SX.S_cat _ _]
      have nl : Nl ([a] ++ l) := ⟨⟨a, rfl, in_small ha⟩, fun x hx => (List.mem_append.mp hx).elim (fun z => by rw [List.mem_singleton.mp z]; unfold okA; rw [in_small ha]; rfl) (al x)⟩
      have hd7 := k7 _ _ dp hd6
      have k17 : Keep p H H7 := k4.trans (k5.trans (k6.trans k7))
      show tSeq _ _ _ [some (V.ref p), some (.int m), some (.str (S aSmall)), some (.str (S aSigns)), some (.ref d), none, z6, some (.int (0 + (i : Int))), some (.str (S ([a] ++ l))), none] H7
      refine ⟨_, rfl, ?_⟩
      have tl : (Str.ofString "1z0y2").cps.toList = [49, 122, 48, 121, 50] := by decide +kernel
      refine for_it walk_str (fun j σ H8 => H8 = H7 ∧ ∃ (l2 : List Nat) (z6 : Option V), σ = [some (V.ref p), some (.int m), some (.str (S aSmall)), some (.str (S aSigns)), some (.ref d), none, z6, some (.int (0 + (i : Int))), some (.str (S l2)), none] ∧ Nl l2 ∧ l2.length ≤ 4 + j ∧
          (S l2 ∉ ns ∨ ∃ ps : List (List Nat), ps.length = j ∧ ps.Nodup ∧ (∀ x ∈ ps, S x ∈ ns) ∧ ∀ x ∈ ps, x.length < l2.length))
        ⟨rfl, _, _, rfl, nl, by rw [List.length_append, ll2]; simp; omega, .inr ⟨[], rfl, by simp, by simp, by simp⟩⟩ (fun _ _ _ _ _ => trivial) ?_ ?_
      · rintro j x σ H8 H9 hj ⟨rfl, l2, z6', rfl, nl2, len2, or2⟩ ⟨rfl, s, hs, rfl⟩
        have ms : s ∈ [49, 122, 48, 121, 50] := by rw [← tl]; exact List.mem_of_getElem? (i := j) (by simpa using hs)
        have os : okA s = true := by
          have z : [49, 122, 48, 121, 50].all okA = true := by decide
          exact List.all_eq_true.mp z s ms
        refine ⟨_, rfl, _, rfl, d, _, rfl, .inl (SqL.of hd7), rfl, flat_S ns, decide (S l2 ∈ ns), by rw [inV_S]; rfl, ?_⟩
        by_cases mem : S l2 ∈ ns
        · rw [decide_eq_true mem]
          have lm : l2.length ≤ 100 := by
            have : j < 5 := by
              have z : (Str.ofString "1z0y2").cps.size = 5 := by decide +kernel
              rw [← z]; exact hj
            omega
          refine iteT ⟨_, rfl, _, rfl, _, _, rfl, rfl, (by show (S l2).length + (S [s]).length ≤ sizeLine; rw [SX.S_len, SX.S_len]; simp; omega), rfl, l2 ++ [s], some (.str (S [s])), ?_, nl2.app fun c hc => by rw [List.mem_singleton.mp hc]; exact os, by simp; omega, .inr ?_⟩
          · rw [show S l2 ++ S [s] = S (l2 ++ [s]) from SX.S_cat _ _]
            rfl
          · obtain ⟨ps, pl, pnd, pm, plt⟩ := or2.resolve_left fun z => z mem
            refine ⟨l2 :: ps, by simp [pl], List.nodup_cons.mpr ⟨fun z => by have := plt l2 z; omega, pnd⟩, fun x hx => ?_, fun x hx => ?_⟩
            · rcases List.mem_cons.mp hx with rfl | hx
              · exact mem
              · exact pm x hx
            · rw [List.length_append]
              rcases List.mem_cons.mp hx with rfl | hx
              · simp
              · have := plt x hx
                simp; omega
        · rw [decide_eq_false mem]
          exact iteF ⟨_, rfl, rfl, l2, some (.str (S [s])), rfl, nl2, by omega, .inl mem⟩
      · rintro σ H8 ⟨rfl, l2, z6', rfl, nl2, len2, or2⟩
        have z5 : (Str.ofString "1z0y2").cps.size = 5 := by decide +kernel
        rw [z5] at len2 or2
        have nmem : S l2 ∉ ns := by
          rcases or2 with z | ⟨ps, pl, pnd, pm, plt⟩
          · exact z
          · exact fun z => met_few pnd pm z plt (by omega)
        refine ⟨_, rfl, .inl ⟨rfl, _, SqL.of hd7⟩, _, rfl, d, ns.map V.str, .str (S l2), rfl, rfl, hd7, by rw [List.length_map]; omega, ?_⟩
        refine ⟨ns ++ [S l2], _, _, _, rfl, ⟨by simp [lns], ?_, ?_⟩, fun b o nb e => ?_, by rw [upd_same, List.map_append]; rfl, ?_⟩
        · refine List.nodup_append.mpr ⟨dr.nd, by simp, fun x hx y hy => ?_⟩
          rw [List.mem_singleton.mp hy]
          rintro rfl
          exact nmem hx
        · intro x hx
          rcases List.mem_append.mp hx with hx | hx
          · exact dr.dr x hx
          · rw [List.mem_singleton.mp hx]
            exact ⟨l2, rfl, nl2, .inl (by omega)⟩
        · rw [upd_ne (ne_of_none e nd)]
          exact k17 _ _ nb e
        · obtain ⟨y1, y2⟩ := pn.ne nd
          exact (pn7.upd y1 y2).mono (by omega)
    · rintro σ H4 ⟨ns, z6, z7, z8, rfl, dr, k4, hd4, pn4⟩
      exact ⟨_, rfl, q d ns H4 dr k4 nd hd4 (pn4.mono (by omega))⟩
end
end K5

/-! k05: the law's rows, worths, hand-overs. -/
namespace K5
open PySem PySem.Spec PyProof.Rows L2 LamX K1 K18

/-- a row: who gives, who takes, the worths in sixths -/
structure Row where
  g : Nat
  t : Nat
  c : Int
  d : Int
  deriving DecidableEq
def rV (r : Row) : List V := [.int r.g, .int r.t, .int r.c, .int r.d]
structure RwOk (m : Nat) (r : Row) : Prop where
  g : r.g < m
  t : r.t < m
  ne : r.g ≠ r.t
  c0 : 0 ≤ r.c
  d0 : 0 ≤ r.d
  cs : r.c.natAbs < 2 ^ 50
  ds : r.d.natAbs < 2 ^ 50
def RwAt (H : Hp) (a : Addr) (r : Row) : Prop := H a = some (.tup (rV r))
/-- a list of rows -/
def RwL (H : Hp) (d : Addr) (rs : List Row) : Prop := ∃ as, H d = some (.lst (as.map V.ref)) ∧ All2 (RwAt H) as rs
theorem RwL.same {H H' : Hp} {d : Addr} {rs : List Row} (s : Same H H') (h : RwL H d rs) : RwL H' d rs := let ⟨as, a, b⟩ := h; ⟨as, s _ _ a, b.mono fun _ _ z => s _ _ z⟩
/-- the pen's list changes: nothing of these -/
theorem RwL.keep {H H' : Hp} {d p c : Addr} {n : Nat} {rs : List Row} (pn : Pen H p c n) (dp : d ≠ p) (k : Keep p H H') (h : RwL H d rs) : RwL H' d rs := by
  obtain ⟨as, a, b⟩ := h
  obtain ⟨cs, t, r, x, _⟩ := pn
  exact ⟨as, k _ _ dp a, b.mono fun u v z => k _ _ (ne_of z x (fun z => nomatch z)) z⟩
theorem Six.keepP {C : Addr} {H H' : Hp} {a p c : Addr} {n : Nat} {s : Int} (pn : Pen H p c n) (k : Keep p H H') (h : Six C H a s) : Six C H' a s := by
  obtain ⟨cs, t, r, x, _⟩ := pn
  obtain ⟨dx, z⟩ := h
  exact ⟨dx, k _ _ (ne_of z x (fun z => nomatch z)) z⟩
theorem SixV.keepP {C : Addr} {H H' : Hp} {v : V} {p c : Addr} {n : Nat} {s : Int} (pn : Pen H p c n) (k : Keep p H H') (h : SixV C H v s) : SixV C H' v s := h.imp (fun ⟨a, e, z⟩ => ⟨a, e, Six.keepP pn k z⟩) id
theorem HandAt.keepP {C CH : Addr} {H H' : Hp} {a p c : Addr} {n : Nat} {h : Hnd} (pn : Pen H p c n) (k : Keep p H H') (z : HandAt C CH H a h) : HandAt C CH H' a h := by
  obtain ⟨dx, pc, pd, z1, z2, z3⟩ := z
  obtain ⟨cs, t, r, x, _⟩ := id pn
  exact ⟨dx, pc, pd, k _ _ (ne_of z1 x (fun z => nomatch z)) z1, Six.keepP pn k z2, Six.keepP pn k z3⟩
/-- a value set, whichever it is -/
theorem seq_any {te : TE} {k : Nat} {T : TS} {D : Ends} {σ : L2.St} {H : Hp} (R : V → Hp → Prop) (val : ∀ Q : VK, (∀ v H', R v H' → Q v H') → te σ H Q) (go : ∀ v H', R v H' → T D (σ.set k (some v)) H') : tSeq (tAsg te (gName k)) T D σ H := val _ go
def spRows : Sp := fun vs H Q _ => ∃ (p c : Addr) (m k n : Nat), vs = [.ref p, .int m, .int k] ∧ 2 ≤ m ∧ m ≤ 6 ∧ k ≤ 6 ∧ Pen H p c n ∧ n + 60 < 100000 ∧ ∀ (d : Addr) (rs : List Row) (H' : Hp), rs.length = k → (∀ r ∈ rs, RwOk m r) → Keep p H H' → H d = none → RwL H' d rs → Pen H' p c (n + 40) → Q (.ref d) H'
def spWorth (C : Addr) : Sp := fun vs H Q _ => ∃ (p c : Addr) (s : Int) (n : Nat), vs = [.ref p, .int s] ∧ 0 ≤ s ∧ s.natAbs < 2 ^ 50 ∧ Pen H p c n ∧ n + 10 < 100000 ∧ ∀ (v : V) (H' : Hp), SixV C H' v s → Keep p H H' → Pen H' p c (n + 1) → Q v H'
abbrev nRows : List Str := ["_law_pen_here", "_law_strangers", "_law_many", "_law_rows_here", "_law_way", "_law_turn", "_law_giver", "_law_taker", "_law_cost", "_law_gain"]
section
variable {P : Program} {w : World} {K : PySem.W.Frag} {mg : Str → Option Value} {base : Heap} {f C CH : Addr} {fd : FuncData}
theorem scRows : FnScope nRows ["_law_pen_here", "_law_strangers", "_law_many"] (defScope sRows) := ⟨rfl, rfl, rfl, by decide +kernel, rfl, by decide +kernel, by decide +kernel⟩
theorem ok_rows (G : Glob mg) (HT : HasDraw P w K mg base) (HP : HasPick P w K mg base) (F : DefAt K "_law_rows" "_law_rows" sRows f fd) : FnOk P w K mg base CX0 3 f fd ["_law_pen_here", "_law_strangers", "_law_many"] spRows := by
  obtain ⟨ft, fdt, mT, kT, bT, GT⟩ := HT.h
  obtain ⟨fp, fdp, mP, kP_, bP, GP⟩ := HP.h
  refine okN F scRows (fun vs H Q E ⟨p, c, m, k, n, e, _⟩ => by rw [e]; rfl) (fun cdv A outer s H vs Q E hr ⟨p, c, m, k, n, e, m2, m6, k6, pn, hn, q⟩ => ?_)
  subst e
  have r1 := hr.mono (show 1 ≤ 2 by decide)
  refine ⟨_, pss_cons (ps_par (i := 3) (j := 4) (by rfl) scRows.nd rfl rfl (by decide) rfl rfl (pa_cons (pe_lst pa_nil) (pa_cons (pe_call GT r1 rfl mT kT bT .nil pass0 (pa_cons (pv 0) (pa_cons pe_int pa_nil))) pa_nil)) (by rfl))
    (pss_cons (ps_for PassesOwn.never rfl (pi_range1 (by rfl) G.range (pa_cons (pv 2) pa_nil)) (pg_name (i := 5) scRows.nd rfl (Or.inl rfl))
      (pss_cons (ps_set (i := 6) scRows.nd rfl (Or.inl rfl) (pe_call GT r1 rfl mT kT bT .nil pass0 (pa_cons (pv 0) (pa_cons (pv 1) pa_nil))))
      (pss_cons (ps_set (i := 7) scRows.nd rfl (Or.inl rfl) (pe_op op_mod (pe_callTy call_int1 (by rfl) G.int (by decide +kernel) (pa_cons (pe_op op_add (pe_op op_add (pv 6) pe_int) (pe_call GT r1 rfl mT kT bT .nil pass0 (pa_cons (pv 0) (pa_cons (pe_op op_sub (pv 1) pe_int) pa_nil)))) pa_nil)) (pv 1)))
      (pss_cons (ps_set (i := 8) scRows.nd rfl (Or.inl rfl) (pe_call GT r1 rfl mT kT bT .nil pass0 (pa_cons (pv 0) (pa_cons (pe_call GP hr rfl mP kP_ bP .nil pass0 (pa_cons (pv 0) (pa_cons (pe_lst (pa_cons pe_int (pa_cons pe_int (pa_cons pe_int (pa_cons pe_int (pa_cons (pe_op op_pow pe_int pe_int) pa_nil)))))) pa_nil))) pa_nil))))
      (pss_cons (ps_set (i := 9) scRows.nd rfl (Or.inl rfl) (pe_ifExp (pt_cmpR op_eq (pv 4) pe_int (nomark _)) (pv 8) (pe_ifExp (pt_cmpR op_lt (pv 4) pe_int (nomark _)) (pe_op op_add (pv 8) (pe_op op_mul (pe_op op_mul pe_int (pv 4)) (pe_call GT r1 rfl mT kT bT .nil pass0 (pa_cons (pv 0) (pa_cons pe_int pa_nil)))))
          (pe_call GT r1 rfl mT kT bT .nil pass0 (pa_cons (pv 0) (pa_cons pe_int pa_nil))))))
      (pss_one (ps_expr (pe_bm PySem.F.plainAttrs_list PySem.F.slot_list_append PySem.F.type_list_append mt_append (pv 3) (pa_cons (pe_tup (pa_cons (pv 6) (pa_cons (pv 7) (pa_cons (pv 8) (pa_cons (pv 9) pa_nil))))) pa_nil)))))))))
    (pss_one (ps_ret (pv 3)))), ?_⟩
  have sz : sizeLine = 16777216 := sizeLine_eq
  refine ⟨(by show 0 ≤ sizeLine; omega), fun d nd => ⟨_, rfl, ?_⟩⟩
  have s1 := upd_new (o := .lst []) nd
  have hd1 : upd H d (.lst []) d = some (.lst []) := upd_same
  generalize upd H d (.lst []) = H1 at s1 hd1 ⊢
  have dp : d ≠ p := (pn.ne nd).1.symm
  refine ⟨p, c, 4, n, rfl, pn.same s1, by omega, by decide, by decide, fun w0 H2 w00 w04 k2 pn2 => ?_⟩
  have kk2 : Keep p H H2 := (theKeep s1).trans k2
  have hd2 := k2 _ _ dp hd1
  refine ⟨_, _, rfl, ?_⟩
  show tSeq _ _ _ [some (V.ref p), some (.int m), some (.int k), some (.ref d), some (.int w0), none, none, none, none, none] H2
  refine ⟨_, rfl, (k : Int), rfl, by omega, by omega, ?_⟩
  refine for_range (lo := 0) (n := (k : Int).toNat) (fun i σ H3 => ∃ (rs : List Row) (z5 z6 z7 z8 z9 : Option V), σ = [some (V.ref p), some (.int m), some (.int k), some (.ref d), some (.int w0), z5, z6, z7, z8, z9] ∧ rs.length = i ∧ (∀ r ∈ rs, RwOk m r) ∧ Keep p H H3 ∧ RwL H3 d rs ∧ Pen H3 p c (n + 1 + 5 * i))
    ⟨[], none, none, none, none, none, rfl, rfl, by simp, kk2, ⟨[], hd2, .nil⟩, pn2⟩ ?_ ?_
  · rintro i σ H3 hi ⟨rs, z5, z6, z7, z8, z9, rfl, lrs, ok, k3, rw3, pn3⟩
    have hik : i < k := hi
    obtain ⟨m', rfl⟩ : ∃ m' : Nat, m' = m := ⟨m, rfl⟩
    refine ⟨_, rfl, _, rfl, p, c, m', _, rfl, pn3, by omega, by omega, by omega, fun g H4 g0 g1 k4 pn4 => ?_⟩
    refine ⟨_, rfl, _, _, rfl, rfl, _, rfl, _, rfl, _, _, rfl, rfl, p, c, _, _, rfl, pn4, by omega, by omega, by omega, fun u H5 u0 u1 k5 pn5 => ?_⟩
    refine ⟨_, _, rfl, rfl, .inl ⟨_, rfl, _, rfl, _, _, rfl, rfl, by omega, ?_⟩⟩
    refine ⟨_, rfl, _, rfl, _, _, rfl, rfl, ⟨by decide, by decide, by decide⟩, (by show 5 ≤ sizeLine; omega), fun b nb => ?_⟩
    have sB := upd_new (o := .lst [.int 1, .int 7, .int 55, .int 55, .int ((10 : Int) ^ (12 : Int).toNat)]) nb
    have hB : upd H5 b (.lst [.int 1, .int 7, .int 55, .int 55, .int ((10 : Int) ^ (12 : Int).toNat)]) b = some (.lst [.int 1, .int 7, .int 55, .int 55, .int ((10 : Int) ^ (12 : Int).toNat)]) := upd_same
    generalize upd H5 b (.lst [.int 1, .int 7, .int 55, .int 55, .int ((10 : Int) ^ (12 : Int).toNat)]) = H6 at sB hB ⊢
    have pn6 := pn5.same sB
    refine ⟨p, c, b, _, _, rfl, .inl hB, (pn5.ne nb).1.symm, by decide, by decide, pn6, by omega, fun j x H7 ex k7 pn7 => ?_⟩
    have xb : ∃ m1 : Int, x = .int m1 ∧ 0 < m1 ∧ m1 ≤ 10 ^ 12 := by
      match j, ex with
      | 0, ex => exact ⟨_, (Option.some.inj ex).symm, by decide, by decide⟩
      | 1, ex => exact ⟨_, (Option.some.inj ex).symm, by decide, by decide⟩
      | 2, ex => exact ⟨_, (Option.some.inj ex).symm, by decide, by decide⟩
      | 3, ex => exact ⟨_, (Option.some.inj ex).symm, by decide, by decide⟩
      | 4, ex => exact ⟨_, (Option.some.inj ex).symm, by decide, by decide⟩
      | j + 5, ex => exact nomatch ex
    obtain ⟨m1, rfl, m10, m11⟩ := xb
    refine ⟨p, c, _, _, rfl, pn7, by omega, by omega, by omega, fun cc H8 c0 c1 k8 pn8 => ?_⟩
    have kk8 : Keep p H3 H8 := k4.trans (k5.trans ((theKeep sB).trans (k7.trans k8)))
    have t0 := Int.emod_nonneg (g + 1 + u) (show (m' : Int) ≠ 0 by omega)
    have t1 := Int.emod_lt_of_pos (g + 1 + u) (show (0 : Int) < m' by omega)
    have tne : g ≠ (g + 1 + u) % m' := by
      intro e
      have := Int.emod_add_mul_ediv (g + 1 + u) m'
      rw [← e] at this
      have h1 : (m' : Int) * ((g + 1 + u) / m') = 1 + u := by omega
      rcases Int.lt_trichotomy ((g + 1 + u) / m') 0 with z | z | z
      · have := Int.mul_le_mul_of_nonneg_left (show (g + 1 + u) / m' ≤ -1 by omega) (show (0 : Int) ≤ m' by omega)
        omega
      · rw [z] at h1; omega
      · have := Int.mul_le_mul_of_nonneg_left (show 1 ≤ (g + 1 + u) / m' by omega) (show (0 : Int) ≤ m' by omega)
        omega
    dsimp only [gName]
    refine seq_any (R := fun v H9 => ∃ dd : Int, v = .int dd ∧ 0 ≤ dd ∧ dd.natAbs < 2 ^ 50 ∧ Keep p H8 H9 ∧ Pen H9 p c (n + 1 + 5 * i + 5)) (fun Q2 kq => ?_) ?_
    · have pq := pn8.mono (show n + 1 + 5 * i + 1 + 1 + 1 + 1 ≤ n + 1 + 5 * i + 5 by omega)
      refine ⟨_, rfl, rfl, decide (w0 = 0), by rw [decI], ?_⟩
      by_cases e0 : w0 = 0
      · rw [decide_eq_true e0]
        exact iteT ⟨_, rfl, kq _ _ ⟨cc, rfl, c0, by omega, Keep.refl _ _, pq⟩⟩
      rw [decide_eq_false e0]
      refine iteF ⟨_, rfl, _, _, rfl, rfl, _, rfl, ?_⟩
      by_cases e3 : w0 < 3
      · rw [decide_eq_true e3]
        refine iteT ⟨_, rfl, _, rfl, _, _, rfl, rfl, .inl ⟨by decide, by omega⟩, _, rfl, p, c, _, _, rfl, pn8, by omega, by omega, by omega, fun v H9 v0 v1 k9 pn9 => ?_⟩
        have wv : 0 ≤ 6 * w0 * v ∧ 6 * w0 * v ≤ 12 * 2 := ⟨Int.mul_nonneg (by omega) v0, Int.mul_le_mul (by omega) (by omega) (by omega) (by decide)⟩
        refine ⟨_, _, rfl, rfl, .inl ⟨by omega, by omega⟩, _, _, rfl, rfl, kq _ _ ⟨_, rfl, by omega, by omega, k9, pn9⟩⟩
      · rw [decide_eq_false e3]
        exact iteF ⟨_, rfl, p, c, _, _, rfl, pn8, by omega, by omega, by omega, fun v H9 v0 v1 k9 pn9 => kq _ _ ⟨v, rfl, v0, by omega, k9, pn9⟩⟩
    rintro _ H9 ⟨dd, rfl, d0, d1, k9, pn9⟩
    have k39 := kk8.trans k9
    obtain ⟨as, hd9, al⟩ := rw3.keep pn3 dp k39
    obtain ⟨g', rfl⟩ := Int.eq_ofNat_of_zero_le g0
    obtain ⟨t', et⟩ := Int.eq_ofNat_of_zero_le t0
    refine ⟨_, rfl, .inl ⟨rfl, _, SqL.of hd9⟩, _, rfl, _, rfl, _, rfl, _, rfl, (by show 4 ≤ sizeLine; omega), fun a na => ?_⟩
    have sA := upd_new (o := .tup [.int g', .int ((g' + 1 + u) % m'), .int cc, .int dd]) na
    have eA : upd H9 a (.tup [.int g', .int ((g' + 1 + u) % m'), .int cc, .int dd]) a = some (.tup (rV ⟨g', t', cc, dd⟩)) := by
      rw [upd_same, et]; rfl
    generalize upd H9 a (.tup [.int g', .int ((g' + 1 + u) % m'), .int cc, .int dd]) = H10 at sA eA ⊢
    have hd10 := sA _ _ hd9
    have las := al.1
    obtain ⟨y1, y2⟩ := pn.ne nd
    have ad : a ≠ d := (ne_of_none hd9 na).symm
    refine ⟨d, as.map V.ref, .ref a, rfl, rfl, hd10, by rw [List.length_map]; omega, rs ++ [⟨g', t', cc, dd⟩], _, _, _, _, _, rfl, by simp [lrs], fun r hr => ?_, ?_, ⟨as ++ [a], by rw [upd_same, List.map_append]; rfl, ?_⟩, (pn9.same sA).upd y1 y2 |>.mono (by omega)⟩
    · rcases List.mem_append.mp hr with hr | hr
      · exact ok r hr
      · rw [List.mem_singleton.mp hr]
        exact ⟨by show g' < m'; omega, by show t' < m'; omega, by show g' ≠ t'; omega, c0, d0, by show cc.natAbs < 2 ^ 50; omega, d1⟩
    · intro b' o nb e
      rw [upd_ne (ne_of_none e nd)]
      exact sA _ _ (k9 _ _ nb (kk8 _ _ nb (k3 _ _ nb e)))
    · exact (All2.snoc (al.mono fun x r z => by
        show upd _ _ _ _ = _
        rw [upd_ne (ne_of z hd9 (fun z => nomatch z))]
        exact sA _ _ z) (by
        show upd _ _ _ _ = _
        rw [upd_ne ad]
        exact eA))
  · rintro σ H3 ⟨rs, z5, z6, z7, z8, z9, rfl, lrs, ok, k3, rw3, pn3⟩
    exact ⟨_, rfl, q d rs H3 lrs ok k3 nd rw3 (pn3.mono (by omega))⟩
theorem scWorth : FnScope ["_law_pen_here", "_law_sixths"] ["_law_pen_here", "_law_sixths"] (defScope sWorth) := ⟨rfl, rfl, rfl, by decide +kernel, rfl, by decide +kernel, by decide +kernel⟩
theorem ok_worth (HT : HasDraw P w K mg base) (MR : MkR P w K mg base C) (F : DefAt K "_law_worth" "_law_worth" sWorth f fd) : FnOk P w K mg base CX0 4 f fd ["_law_pen_here", "_law_sixths"] (spWorth C) := by
  obtain ⟨ft, fdt, mT, kT, bT, GT⟩ := HT.h
  obtain ⟨fm, fdm, ds, M, GM, bM, _, _⟩ := MR.m
  refine okN F scWorth (fun vs H Q E ⟨p, c, s, n, e, _⟩ => by rw [e]; rfl) (fun cdv A outer s H vs Q E hr ⟨p, c, x, n, e, x0, xs, pn, hn, q⟩ => ?_)
  subst e
  refine ⟨_, pss_one (ps_ret (pe_ifExp (PW.pt (pw_and (pt_cmpR op_eq (pe_op op_mod (pv 1) pe_int) pe_int (nomark _)) (pw_and1 (pt_cmpR op_eq (pe_call GT (hr.mono (by decide)) rfl mT kT bT .nil pass0 (pa_cons (pv 0) (pa_cons pe_int pa_nil))) pe_int (nomark _)))))
    (pe_op op_fdiv (pv 1) pe_int) (pe_make M GM hr rfl MR.g bM .nil pass0 (pa_cons (pv 1) (pa_cons pe_int pa_nil))))), ?_⟩
  have ratio : ∀ (H1 : Hp), Keep p H H1 → Pen H1 p c (n + 1) → ∀ y dy, H1 y = none → H1 dy = none → dy ≠ y → spRI C [.ref y, .int x, .int 6] (upd (upd H1 dy (.own y)) y (.ins C dy [])) (fun v H2 => v = .non ∧ Q (.ref y) H2) E0 := fun H1 k1 pn1 =>
    mk_six (s := x) (by decide) (by omega) (by decide) ⟨rfl, rfl⟩ fun a H2 s2 na h2 => q (.ref a) H2 (.inl ⟨a, rfl, h2⟩) (k1.trans (theKeep s2)) (pn1.same s2)
  refine ⟨_, rfl, _, _, rfl, rfl, (by show (0 : Int) < 6; decide), rfl, decide (x % 6 = 0), by rw [decI], ?_⟩
  by_cases e : x % 6 = 0
  · rw [decide_eq_true e]
    refine iteT ⟨_, rfl, p, c, 2, n, rfl, pn, by omega, by decide, by decide, fun r H1 r0 r2 k1 pn1 => ⟨rfl, decide (r = 0), by rw [decI], ?_⟩⟩
    by_cases er : r = 0
    · rw [decide_eq_true er]
      exact iteT ⟨_, rfl, _, _, rfl, rfl, ⟨by decide, by decide⟩, q _ H1 (.inr ⟨_, rfl, by omega⟩) k1 pn1⟩
    · rw [decide_eq_false er]
      exact iteF ⟨_, rfl, ratio H1 k1 pn1⟩
  · rw [decide_eq_false e]
    exact iteF (iteF ⟨_, rfl, ratio H (Keep.refl _ _) (pn.mono (by omega))⟩)
end
end K5

/-! k05: the law's hand-overs, lines, backs. -/
namespace K5
open PySem PySem.Spec PyProof.Rows L2 LamX K1 K18

/-! ### rows in numbers -/
def mkH (ns : List Str) (r : Row) : Hnd := ⟨ns.getD r.g "", ns.getD r.t "", r.c, r.d⟩
def effR (j : Nat) (r : Row) : Int := if j = r.g then -r.c else if j = r.t then r.d else 0
def lineF (m : Nat) (rs : List Row) : List Int := (List.range m).map fun j => (rs.map (effR j)).sum
def Row.back (r : Row) : Row := ⟨r.t, r.g, r.d, r.c⟩
theorem getD_at {ns : List Str} {i : Nat} (h : i < ns.length) : ns[i]? = some (ns.getD i "") := by
  rw [List.getD_eq_getElem?_getD, List.getElem?_eq_getElem h]; rfl
theorem getD_in {ns : List Str} {i : Nat} (h : i < ns.length) : ns.getD i "" ∈ ns := List.mem_of_getElem? (getD_at h)
theorem getD_inj {ns : List Str} (nd : ns.Nodup) {i j : Nat} (hi : i < ns.length) (hj : j < ns.length) (e : ns.getD i "" = ns.getD j "") : i = j :=
  by
    have ei : ns.getD i "" = ns[i] := by rw [List.getD_eq_getElem?_getD, List.getElem?_eq_getElem hi]; rfl
    have ej : ns.getD j "" = ns[j] := by rw [List.getD_eq_getElem?_getD, List.getElem?_eq_getElem hj]; rfl
    rw [ei, ej] at e
    have pw := List.pairwise_iff_getElem.mp nd
    rcases Nat.lt_trichotomy i j with z | z | z
    · exact absurd e (pw i j hi hj z)
    · exact z
    · exact absurd e.symm (pw j i hj hi z)
theorem hnd_ok {ns : List Str} (nd : ns.Nodup) (nm : ∀ n ∈ ns, Nm n) {r : Row} (k : RwOk ns.length r) : HnOk (mkH ns r) := ⟨nm _ (getD_in k.g), nm _ (getD_in k.t), fun e => k.ne (getD_inj nd k.g k.t e), k.c0, k.d0, k.cs, k.ds⟩
theorem sw_ok {ns : List Str} {rs : List Row} (n2 : 2 ≤ ns.length) (n6 : ns.length ≤ 6) (nd : ns.Nodup) (nm : ∀ n ∈ ns, Nm n) (k : ∀ r ∈ rs, RwOk ns.length r) : SwOk ns (rs.map (mkH ns)) := ⟨n2, n6, nd, nm, fun h m => by
  obtain ⟨r, hr, rfl⟩ := List.mem_map.mp m
  exact ⟨hnd_ok nd nm (k r hr), getD_in (k r hr).g, getD_in (k r hr).t⟩⟩
theorem back_mk (ns : List Str) (rs : List Row) : (rs.map (mkH ns)).map Hnd.back = (rs.map Row.back).map (mkH ns) := by
  rw [List.map_map, List.map_map]; rfl
theorem RwOk.back {m : Nat} {r : Row} (k : RwOk m r) : RwOk m r.back := ⟨k.t, k.g, Ne.symm k.ne, k.d0, k.c0, k.ds, k.cs⟩
theorem eff_row {ns : List Str} (nd : ns.Nodup) {r : Row} (k : RwOk ns.length r) {j : Nat} (hj : j < ns.length) : (mkH ns r).eff (ns.getD j "") = effR j r := by
  unfold Hnd.eff effR
  have e1 : (ns.getD j "" = (mkH ns r).g) ↔ j = r.g := ⟨fun e => getD_inj nd hj k.g e, fun e => by rw [e]; rfl⟩
  have e2 : (ns.getD j "" = (mkH ns r).t) ↔ j = r.t := ⟨fun e => getD_inj nd hj k.t e, fun e => by rw [e]; rfl⟩
  simp only [e1, e2]
  rfl
theorem net_row {ns : List Str} (nd : ns.Nodup) {j : Nat} (hj : j < ns.length) : ∀ {rs : List Row}, (∀ r ∈ rs, RwOk ns.length r) → net (rs.map (mkH ns)) (ns.getD j "") = (rs.map (effR j)).sum
  | [], _ => rfl
  | r :: rs, k => by
    have ih := net_row nd hj (rs := rs) fun x hx => k x (List.mem_cons_of_mem _ hx)
    have er := eff_row nd (k r List.mem_cons_self) hj
    unfold net at ih ⊢
    rw [List.map_cons, List.map_cons, List.sum_cons, ← er, ← ih]
    by_cases h : (decide (ns.getD j "" = (mkH ns r).g) || decide (ns.getD j "" = (mkH ns r).t)) = true
    · rw [List.filter_cons, if_pos h, List.map_cons, List.sum_cons]
    · rw [List.filter_cons, if_neg h]
      have : (mkH ns r).eff (ns.getD j "") = 0 := by
        unfold Hnd.eff
        rw [Bool.or_eq_true, decide_eq_true_iff, decide_eq_true_iff] at h
        rw [if_neg fun e => h (.inl e), if_neg fun e => h (.inr e)]
      rw [this, Int.zero_add]
theorem nets_line {ns : List Str} (nd : ns.Nodup) {rs : List Row} (k : ∀ r ∈ rs, RwOk ns.length r) : ns.map (net (rs.map (mkH ns))) = lineF ns.length rs := by
  refine List.ext_getElem? fun j => ?_
  unfold lineF
  rw [List.getElem?_map, List.getElem?_map]
  by_cases hj : j < ns.length
  · rw [getD_at hj, List.getElem?_range hj, Option.map_some, Option.map_some, net_row nd hj k]
  · rw [List.getElem?_eq_none (by omega), List.getElem?_eq_none (by rw [List.length_range]; omega)]; rfl
theorem line_at {m j : Nat} {rs : List Row} (h : j < m) : (lineF m rs)[j]? = some (rs.map (effR j)).sum := by
  unfold lineF
  rw [List.getElem?_map, List.getElem?_range h]; rfl
theorem line_len (m : Nat) (rs : List Row) : (lineF m rs).length = m := by unfold lineF; rw [List.length_map, List.length_range]
theorem line_nil (m : Nat) : lineF m [] = List.replicate m 0 := by
  refine List.ext_getElem? fun j => ?_
  by_cases h : j < m
  · rw [line_at h, List.getElem?_replicate_of_lt h]; rfl
  · rw [List.getElem?_eq_none (by rw [line_len]; omega), List.getElem?_eq_none (by rw [List.length_replicate]; omega)]
theorem line_step {m : Nat} {rs : List Row} {r : Row} (k : RwOk m r) : ((lineF m rs).set r.g ((rs.map (effR r.g)).sum - r.c)).set r.t ((rs.map (effR r.t)).sum + r.d) = lineF m (rs ++ [r]) := by
  refine List.ext_getElem? fun j => ?_
  by_cases h : j < m
  · rw [line_at h, List.map_append, List.sum_append, List.getElem?_set, List.getElem?_set, List.length_set, line_len]
    have one : ([r].map (effR j)).sum = effR j r := by simp
    rw [one]
    unfold effR
    by_cases e1 : r.t = j
    · subst e1
      rw [if_pos rfl, if_pos h, if_neg (Ne.symm k.ne), if_pos rfl]
    · rw [if_neg e1]
      by_cases e2 : r.g = j
      · subst e2
        rw [if_pos rfl, if_pos h, if_pos rfl]
        rfl
      · rw [if_neg e2, line_at h, if_neg (Ne.symm e2), if_neg (Ne.symm e1), Int.add_zero]
        rfl
  · rw [List.getElem?_eq_none (by rw [List.length_set, List.length_set, line_len]; omega), List.getElem?_eq_none (by rw [line_len]; omega)]
theorem effR_sm {m j : Nat} {r : Row} (k : RwOk m r) : (effR j r).natAbs < 2 ^ 50 := by
  unfold effR
  have := k.cs
  have := k.ds
  split
  · omega
  · split <;> omega
theorem sum_sm {m j : Nat} : ∀ {rs : List Row}, (∀ r ∈ rs, RwOk m r) → (rs.map (effR j)).sum.natAbs ≤ rs.length * 2 ^ 50
  | [], _ => by simp
  | r :: rs, k => by
    have ih := sum_sm (j := j) (rs := rs) fun x hx => k x (List.mem_cons_of_mem _ hx)
    have h1 := effR_sm (j := j) (k r List.mem_cons_self)
    rw [List.map_cons, List.sum_cons, List.length_cons, Nat.succ_mul]
    omega
def LineSm (l : List Int) : Prop := ∀ z ∈ l, z.natAbs < 2 ^ 56
theorem line_sm {m : Nat} {rs : List Row} (k : ∀ r ∈ rs, RwOk m r) (l : rs.length ≤ 60) : LineSm (lineF m rs) := fun z hz => by
  obtain ⟨j, _, rfl⟩ := List.mem_map.mp hz
  have := sum_sm (j := j) k
  have : rs.length * 2 ^ 50 ≤ 60 * 2 ^ 50 := Nat.mul_le_mul_right _ l
  omega
/-! ### the defs -/
def spHandsL (C CH : Addr) : Sp := fun vs H Q _ => ∃ (p c nm rw : Addr) (ns : List Str) (rs : List Row) (n : Nat), vs = [.ref p, .ref nm, .ref rw] ∧ Pen H p c n ∧ n + 30 < 100000 ∧ nm ≠ p ∧ rw ≠ p ∧ H nm = some (.lst (ns.map V.str)) ∧ ns.Nodup ∧ (∀ n ∈ ns, Nm n) ∧
  RwL H rw rs ∧ (∀ r ∈ rs, RwOk ns.length r) ∧ rs.length ≤ 6 ∧ ∀ (d : Addr) (as : List Addr) (H' : Hp), Keep p H H' → H d = none → H' d = some (.lst (as.map V.ref)) → Hands C CH H' as (rs.map (mkH ns)) → Pen H' p c (n + 12) → Q (.ref d) H'
abbrev nHandsL : List Str := ["_law_pen_here", "_law_names_here", "_law_rows_here", "_law_found", "_law_giver", "_law_taker", "_law_cost", "_law_gain"]
section
variable {P : Program} {w : World} {K : PySem.W.Frag} {mg : Str → Option Value} {base : Heap} {f C CH : Addr} {fd : FuncData}
abbrev HasWorth (P : Program) (w : World) (K : PySem.W.Frag) (mg : Str → Option Value) (base : Heap) (C : Addr) : Prop := Has P w K mg base CX0 4 "_law_worth" ["_law_pen_here", "_law_sixths"] (spWorth C)
theorem scHandsL : FnScope nHandsL ["_law_pen_here", "_law_names_here", "_law_rows_here"] (defScope sHandsL) := ⟨rfl, rfl, rfl, by decide +kernel, rfl, by decide +kernel, by decide +kernel⟩
theorem ok_handsL (HW : HasWorth P w K mg base C) (M : MkH P w K mg base C CH) (F : DefAt K "_law_hands" "_law_hands" sHandsL f fd) : FnOk P w K mg base CX0 9 f fd ["_law_pen_here", "_law_names_here", "_law_rows_here"] (spHandsL C CH) := by
  obtain ⟨fw, fdw, mW, kW, bW, GW⟩ := HW.h
  obtain ⟨fm, fdm, Mm, GM, bM⟩ := M.m
  refine okN F scHandsL (fun vs H Q E ⟨p, c, nm, rw, ns, rs, n, e, _⟩ => by rw [e]; rfl) (fun cdv A outer s H vs Q E hr ⟨p, c, nm, rw, ns, rs, n, e, pn, hn, np, rp, hnm, nd, nmo, rwl, ok, l6, q⟩ => ?_)
  subst e
  have r4 := hr.mono (show 4 ≤ 8 by decide)
  refine ⟨_, pss_cons (ps_set (i := 3) scHandsL.nd rfl (Or.inl rfl) (pe_lst pa_nil))
    (pss_cons (ps_for PassesOwn.never rfl (pi_list (pv 2)) (pg_tup (by rfl) (pgs_cons (pg_name (i := 4) scHandsL.nd rfl (Or.inl rfl)) (pgs_cons (pg_name (i := 5) scHandsL.nd rfl (Or.inl rfl)) (pgs_cons (pg_name (i := 6) scHandsL.nd rfl (Or.inl rfl)) (pgs_cons (pg_name (i := 7) scHandsL.nd rfl (Or.inl rfl)) pgs_nil)))))
      (pss_one (ps_expr (pe_bm PySem.F.plainAttrs_list PySem.F.slot_list_append PySem.F.type_list_append mt_append (pv 3) (pa_cons (pe_make Mm GM hr rfl M.g bM .nil pass0 (pa_cons (pe_ix ix_list (pv 1) (pv 4) (fun _ _ => rfl)) (pa_cons (pe_ix ix_list (pv 1) (pv 5) (fun _ _ => rfl))
        (pa_cons (pe_call GW r4 rfl mW kW bW .nil pass0 (pa_cons (pv 0) (pa_cons (pv 6) pa_nil))) (pa_cons (pe_call GW r4 rfl mW kW bW .nil pass0 (pa_cons (pv 0) (pa_cons (pv 7) pa_nil))) pa_nil))))) pa_nil)))))
    (pss_one (ps_ret (pv 3)))), ?_⟩
  have sz : sizeLine = 16777216 := sizeLine_eq
  refine ⟨(by show 0 ≤ sizeLine; omega), fun d nd' => ⟨_, rfl, ?_⟩⟩
  have s1 := upd_new (o := .lst []) nd'
  have hd1 : upd H d (.lst []) d = some (.lst []) := upd_same
  generalize upd H d (.lst []) = H1 at s1 hd1 ⊢
  have dp : d ≠ p := (pn.ne nd').1.symm
  obtain ⟨ras, hrw, ral⟩ := rwl
  refine ⟨rw, rfl, ⟨_, SqL.of (s1 _ _ hrw)⟩, ?_⟩
  refine for_it (walk_list (xs := ras.map V.ref)) (fun i σ H3 => ∃ (as : List Addr) (z4 z5 z6 z7 : Option V), σ = [some (V.ref p), some (.ref nm), some (.ref rw), some (.ref d), z4, z5, z6, z7] ∧ Keep p H H3 ∧ H3 d = some (.lst (as.map V.ref)) ∧ Hands C CH H3 as ((rs.take i).map (mkH ns)) ∧ Pen H3 p c (n + 2 * i))
    ⟨[], none, none, none, none, rfl, theKeep s1, hd1, by simpa using All2.nil, pn.same s1⟩ ?_ ?_ ?_
  · rintro i σ H3 hi ⟨as, z4, z5, z6, z7, rfl, k3, hd3, hh, pn3⟩
    exact SqL.of (k3 _ _ rp hrw)
  · rintro i x σ H3 H4 hi ⟨as, z4, z5, z6, z7, rfl, k3, hd3, hh, pn3⟩ ⟨rfl, ex⟩
    obtain ⟨a, ea, rfl⟩ := map_at ex
    obtain ⟨r, er, ra⟩ := ral.get ea
    have rm := List.mem_of_getElem? er
    have ro := ok r rm
    have li := (List.getElem?_eq_some_iff.mp er).1
    obtain ⟨pcs, pt, pr, hpp, _⟩ := id pn
    refine ⟨a, rV r, rfl, SqT.of (k3 _ _ (ne_of ra hpp (fun z => nomatch z)) ra), rfl, _, _, rfl, _, _, rfl, _, _, rfl, _, _, rfl, rfl, ?_⟩
    refine ⟨_, rfl, .inl ⟨rfl, _, SqL.of hd3⟩, ?_⟩
    refine ⟨_, rfl, _, rfl, nm, ns.map V.str, _, _, rfl, rfl, SqL.of (k3 _ _ np hnm), atI_nat (by rw [List.getElem?_map, getD_at ro.g]; rfl), ?_⟩
    refine ⟨_, rfl, _, rfl, nm, ns.map V.str, _, _, rfl, rfl, SqL.of (k3 _ _ np hnm), atI_nat (by rw [List.getElem?_map, getD_at ro.t]; rfl), ?_⟩
    refine ⟨_, rfl, _, rfl, p, c, r.c, _, rfl, ro.c0, ro.cs, pn3, by omega, fun vc H5 sc5 k5 pn5 => ?_⟩
    refine ⟨_, rfl, _, rfl, p, c, r.d, _, rfl, ro.d0, ro.ds, pn5, by omega, fun vd H6 sd6 k6 pn6 => ?_⟩
    dsimp only [tNil]
    refine mk_hand (CH := CH) (Q := fun v H2 => rAppend (.ref d) [v] H2 _) (h := mkH ns r) (hnd_ok nd nmo ro) (sc5.keepP pn5 k6) sd6 fun q' H7 s7 nq hq => ?_
    have k37 : Keep p _ H7 := k5.trans (k6.trans (theKeep s7))
    have hd7 := k37 _ _ dp hd3
    have las := hh.1
    obtain ⟨y1, y2⟩ := pn.ne nd'
    refine ⟨d, as.map V.ref, .ref q', rfl, rfl, hd7, by rw [List.length_map]; rw [List.length_map, List.length_take] at las; omega, as ++ [q'], _, _, _, _, rfl, ?_, by rw [upd_same, List.map_append]; rfl, ?_, ((pn6.same s7).upd y1 y2).mono (by omega)⟩
    · intro b' o nb e
      rw [upd_ne (ne_of_none e nd')]
      exact k37 _ _ nb (k3 _ _ nb e)
    · rw [take_more er, List.map_append]
      exact All2.snoc (hh.mono fun u v z => hand_upd hd7 (z.keepP pn3 k37)) (hand_upd hd7 hq)
  · rintro σ H3 ⟨as, z4, z5, z6, z7, rfl, k3, hd3, hh, pn3⟩
    rw [List.length_map, ral.1, List.take_length] at hh
    exact ⟨_, rfl, q d as H3 k3 nd' hd3 hh (pn3.mono (by rw [List.length_map, ral.1]; omega))⟩
end
theorem ixN_nat {m k : Nat} (h : k < m) : ixN m (k : Int) = some k := by
  unfold ixN
  simp [h]
def spLine : Sp := fun vs H Q _ => ∃ (m : Nat) (rw : Addr) (rs : List Row), vs = [.int m, .ref rw] ∧ m ≤ 6 ∧ RwL H rw rs ∧ (∀ r ∈ rs, RwOk m r) ∧ rs.length ≤ 60 ∧ ∀ (d : Addr) (H' : Hp), Same H H' → H d = none → H' d = some (.lst ((lineF m rs).map V.int)) → Q (.ref d) H'
def spIs (C : Addr) : Sp := fun vs H Q _ => ∃ (a : Addr) (s : Int), vs = [.ref a, .int s] ∧ Six C H a s ∧ s.natAbs < 2 ^ 56 ∧ Q (.bl true) H
def spLBack : Sp := fun vs H Q _ => ∃ (rw : Addr) (rs : List Row), vs = [.ref rw] ∧ RwL H rw rs ∧ rs.length ≤ 60 ∧ ∀ (d : Addr) (H' : Hp), Same H H' → H d = none → RwL H' d (rs.map Row.back) → Q (.ref d) H'
abbrev nLineL : List Str := ["_law_strangers", "_law_rows_here", "_law_line_here", "_law_giver", "_law_taker", "_law_cost", "_law_gain"]
section
variable {P : Program} {w : World} {K : PySem.W.Frag} {mg : Str → Option Value} {base : Heap} {f C CH : Addr} {fd : FuncData}
theorem scLineL : FnScope nLineL ["_law_strangers", "_law_rows_here"] (defScope sLine) := ⟨rfl, rfl, rfl, by decide +kernel, rfl, by decide +kernel, by decide +kernel⟩
theorem ok_line (F : DefAt K "_law_line" "_law_line" sLine f fd) : FnOk P w K mg base CX0 1 f fd ["_law_strangers", "_law_rows_here"] spLine := by
  refine okN F scLineL (fun vs H Q E ⟨m, rw, rs, e, _⟩ => by rw [e]; rfl) (fun cdv A outer s H vs Q E hr ⟨m, rw, rs, e, m6, rwl, ok, l60, q⟩ => ?_)
  subst e
  refine ⟨_, pss_cons (ps_set (i := 2) scLineL.nd rfl (Or.inl rfl) (pe_op op_rep (pe_lst (pa_cons pe_int pa_nil)) (pv 0)))
    (pss_cons (ps_for PassesOwn.never rfl (pi_list (pv 1)) (pg_tup (by rfl) (pgs_cons (pg_name (i := 3) scLineL.nd rfl (Or.inl rfl)) (pgs_cons (pg_name (i := 4) scLineL.nd rfl (Or.inl rfl)) (pgs_cons (pg_name (i := 5) scLineL.nd rfl (Or.inl rfl)) (pgs_cons (pg_name (i := 6) scLineL.nd rfl (Or.inl rfl)) pgs_nil)))))
      (pss_cons (ps_asg (pe_op op_sub (pe_ix ix_list (pv 2) (pv 3) (fun _ _ => rfl)) (pv 5)) (pg_sub (pv 2) (pv 3) set_list))
      (pss_one (ps_asg (pe_op op_add (pe_ix ix_list (pv 2) (pv 4) (fun _ _ => rfl)) (pv 6)) (pg_sub (pv 2) (pv 4) set_list)))))
    (pss_one (ps_ret (pv 2)))), ?_⟩
  have sz : sizeLine = 16777216 := sizeLine_eq
  refine ⟨(by show 1 ≤ sizeLine; omega), fun d0 nd0 => ?_⟩
  have s1 := upd_new (o := .lst [.int 0]) nd0
  have h1 : upd H d0 (.lst [.int 0]) d0 = some (.lst [.int 0]) := upd_same
  generalize upd H d0 (.lst [.int 0]) = H1 at s1 h1 ⊢
  refine ⟨_, rfl, d0, (m : Int), [.int 0], rfl, rfl, h1, by omega, by omega, (by show 1 * _ ≤ _; omega), fun d nd1 => ?_⟩
  have e0 : (List.replicate (m : Int).toNat [V.int 0]).flatten = (lineF m []).map V.int := by
    rw [line_nil, List.map_replicate, Int.toNat_natCast, List.flatten_replicate_singleton]
  rw [e0]
  have s2 := upd_new (o := .lst ((lineF m []).map V.int)) nd1
  have h2 : upd H1 d (.lst ((lineF m []).map V.int)) d = some (.lst ((lineF m []).map V.int)) := upd_same
  generalize upd H1 d (.lst ((lineF m []).map V.int)) = H2 at s2 h2 ⊢
  have s12 := s1.trans s2
  have nd : H d = none := by
    cases e : H d with
    | none => rfl
    | some o => rw [s1 _ _ e] at nd1; cases nd1
  obtain ⟨ras, hrw, ral⟩ := rwl
  refine ⟨_, rfl, rw, rfl, ⟨_, SqL.of (s12 _ _ hrw)⟩, ?_⟩
  refine for_list (xs := ras.map V.ref) (fun i σ H3 => ∃ (z3 z4 z5 z6 : Option V), σ = [some (V.int m), some (.ref rw), some (.ref d), z3, z4, z5, z6] ∧ Same H H3 ∧ H3 d = some (.lst ((lineF m (rs.take i)).map V.int)))
    ⟨none, none, none, none, rfl, s12, h2⟩ ?_ ?_ ?_
  · rintro i σ H3 hi ⟨z3, z4, z5, z6, rfl, s3, hd3⟩
    exact SqL.of (s3 _ _ hrw)
  · rintro i x σ H3 ex ⟨z3, z4, z5, z6, rfl, s3, hd3⟩
    obtain ⟨a, ea, rfl⟩ := map_at ex
    obtain ⟨r, er, ra⟩ := ral.get ea
    have ro := ok r (List.mem_of_getElem? er)
    have g3 : ∀ {j : Nat}, j < m → ((lineF m (rs.take i)).map V.int)[j]? = some (.int (((rs.take i).map (effR j)).sum)) := fun hj => by rw [List.getElem?_map, line_at hj]; rfl
    refine ⟨a, rV r, rfl, SqT.of (s3 _ _ ra), rfl, _, _, rfl, _, _, rfl, _, _, rfl, _, _, rfl, rfl, ?_⟩
    refine ⟨_, rfl, _, rfl, d, _, _, _, rfl, rfl, SqL.of hd3, atI_nat (g3 ro.g), _, rfl, _, _, rfl, rfl, _, rfl, _, rfl, d, _, _, r.g, rfl, rfl, hd3, ?_, ?_⟩
    · exact ixN_nat (by rw [List.length_map, line_len]; exact ro.g)
    have hd4 : upd H3 d (.lst (((lineF m (rs.take i)).map V.int).set r.g (.int (((rs.take i).map (effR r.g)).sum - r.c)))) d = some (.lst (((lineF m (rs.take i)).set r.g (((rs.take i).map (effR r.g)).sum - r.c)).map V.int)) := by rw [upd_same, List.map_set]
    have s4 : Same H (upd H3 d (.lst (((lineF m (rs.take i)).map V.int).set r.g (.int (((rs.take i).map (effR r.g)).sum - r.c))))) := fun o u e => by rw [upd_ne (ne_of_none e nd)]; exact s3 _ _ e
    refine ⟨_, rfl, _, rfl, d, _, _, _, rfl, rfl, SqL.of hd4, atI_nat (j := r.t) (v := .int (((rs.take i).map (effR r.t)).sum)) (by rw [List.getElem?_map, List.getElem?_set, if_neg ro.ne, line_at ro.t]; rfl), _, rfl, _, _, rfl, rfl, _, rfl, _, rfl, d, _, _, r.t, rfl, rfl, hd4, ?_, _, _, _, _, rfl, ?_, ?_⟩
    · exact ixN_nat (by rw [List.length_map, List.length_set, line_len]; exact ro.t)
    · intro o u e
      rw [upd_ne (ne_of_none e nd)]
      exact s4 _ _ e
    · rw [upd_same, take_more er, ← line_step ro]
      simp only [List.map_set]
  · rintro σ H3 ⟨z3, z4, z5, z6, rfl, s3, hd3⟩
    rw [List.length_map, ral.1, List.take_length] at hd3
    exact ⟨_, rfl, q d H3 s3 nd hd3⟩
theorem scIs : FnScope ["_law_value", "_law_sixths"] ["_law_value", "_law_sixths"] (defScope sIs) := ⟨rfl, rfl, rfl, by decide +kernel, rfl, by decide +kernel, by decide +kernel⟩
theorem ok_is (G : Glob mg) (R : RatF K C) (gR : mg "Ratio" = some (.ref C)) (F : DefAt K "_law_is" "_law_is" sIs f fd) : FnOk P w K mg base CX0 1 f fd ["_law_value", "_law_sixths"] (spIs C) := by
  refine okN F scIs (fun vs H Q E ⟨a, s, e, _⟩ => by rw [e]; rfl) (fun cdv A outer s H vs Q E hr ⟨a, n, e, ha, sm, q⟩ => ?_)
  subst e
  obtain ⟨dx, h1⟩ := ha
  refine ⟨_, pss_one (ps_ret (pe_and (pe_callB call_isi (by rfl) G.isi (by decide +kernel) (pa_cons (pv 0) (pa_cons (pe_glob (v := .ref C) rfl gR rfl) pa_nil)))
    (pe_one (pe_cmpR op_eq (pe_op op_mul pe_int (pe_fld (pv 0) rfl)) (pe_op op_mul (pv 1) (pe_fld (pv 0) rfl)) (nomark _))))), ?_⟩
  have ⟨b1, b2⟩ := six_le n
  refine ⟨_, rfl, _, _, _, _, _, rfl, .own C, .base (R.ty h1), R.me, true, rfl, iteT ?_⟩
  refine ⟨_, rfl, a, C, dx, _, _, rfl, h1, R.cl, R.nT, fsR_top _ _, _, _, rfl, rfl, .inl ⟨by decide, by decide⟩, _, rfl, _, rfl, a, C, dx, _, _, rfl, h1, R.cl, R.nB, fsR_bottom _ _, _, _, rfl, rfl, .inr ⟨by omega, by omega⟩, rfl, ?_⟩
  rw [decI, decide_eq_true ((six_is n n).mpr rfl)]
  exact q
abbrev nLBack : List Str := ["_law_rows_here", "_law_giver", "_law_taker", "_law_cost", "_law_gain"]
theorem scLBack : FnScope nLBack ["_law_rows_here"] (defScope sLBack) := ⟨rfl, rfl, rfl, by decide +kernel, rfl, by decide +kernel, by decide +kernel⟩
theorem ok_lback (F : DefAt K "_law_back" "_law_back" sLBack f fd) : FnOk P w K mg base CX0 1 f fd ["_law_rows_here"] spLBack := by
  refine okN F scLBack (fun vs H Q E ⟨rw, rs, e, _⟩ => by rw [e]; rfl) (fun cdv A outer s H vs Q E hr ⟨rw, rs, e, rwl, l60, q⟩ => ?_)
  subst e
  refine ⟨_, pss_one (ps_ret (pe_lc (own := [("_law_giver", 1), ("_law_taker", 2), ("_law_cost", 3), ("_law_gain", 4)]) (g := gTup K 4 (gCons (gName 1) (gCons (gName 2) (gCons (gName 3) (gCons (gName 4) gNil))))) (tt := tYes) rfl scLBack.nd (pi_list (pv 0)) (blkOk_by (N := nLBack) (sc := defScope sLBack) (by decide +kernel))
        (fun _ _ _ _ _ => pg_tup (by rfl) (pgs_cons (pg_name (i := 1) scLBack.nd rfl (Or.inl rfl)) (pgs_cons (pg_name (i := 2) scLBack.nd rfl (Or.inl rfl)) (pgs_cons (pg_name (i := 3) scLBack.nd rfl (Or.inl rfl)) (pgs_cons (pg_name (i := 4) scLBack.nd rfl (Or.inl rfl)) pgs_nil))))) (fun _ _ _ _ _ => pts_nil) (fun _ _ _ _ _ => pe_tup (pa_cons (pv 2) (pa_cons (pv 1) (pa_cons (pv 4) (pa_cons (pv 3) pa_nil))))))), ?_⟩
  have sz : sizeLine = 16777216 := sizeLine_eq
  obtain ⟨ras, hrw, ral⟩ := rwl
  refine ⟨_, rfl, rw, rfl, ⟨_, SqL.of hrw⟩, fun D hD => ?_⟩
  refine lc_it (walk_list (xs := ras.map V.ref)) (fun i H2 => Same H H2 ∧ RwL H2 D ((rs.take i).map Row.back)) ⟨upd_new hD, [], upd_same, .nil⟩ (fun i H2 _ z => SqL.of (z.1 _ _ hrw)) ?_ ?_
  · rintro i x H2 H3 hi ⟨s2, as, hd2, al⟩ ⟨rfl, ex⟩
    obtain ⟨a, ea, rfl⟩ := map_at ex
    obtain ⟨r, er, ra⟩ := ral.get ea
    have li := (List.getElem?_eq_some_iff.mp er).1
    refine ⟨a, rV r, rfl, SqT.of (s2 _ _ ra), rfl, _, _, rfl, _, _, rfl, _, _, rfl, _, _, rfl, rfl, rfl, yes_of ⟨_, rfl, _, rfl, _, rfl, _, rfl, (by show 4 ≤ sizeLine; omega), fun p np => ?_⟩⟩
    have s3 := upd_new (o := .tup [.int r.t, .int r.g, .int r.d, .int r.c]) np
    have hp : upd H3 p (.tup [.int r.t, .int r.g, .int r.d, .int r.c]) p = some (.tup (rV r.back)) := upd_same
    generalize upd H3 p (.tup [.int r.t, .int r.g, .int r.d, .int r.c]) = H4 at s3 hp ⊢
    have hd3 := s3 _ _ hd2
    have las := al.1
    rw [List.length_map, List.length_take] at las
    refine ⟨_, hd3, by rw [List.length_map]; omega, same_upd hD (s2.trans s3), as ++ [p], by rw [upd_same, List.map_append]; rfl, ?_⟩
    rw [take_more er, List.map_append]
    have up : ∀ {u : Addr} {v : Row}, RwAt H4 u v → ∀ o, RwAt (upd H4 D o) u v := fun z o => by
      show upd _ _ _ _ = _
      rw [upd_ne (ne_of z hd3 (fun z => nomatch z))]; exact z
    exact All2.snoc (al.mono fun u v z => up (s3 _ _ z) _) (up hp _)
  · rintro H2 ⟨s2, z⟩
    rw [List.length_map, ral.1, List.take_length] at z
    exact q D H2 s2 hD z
end
end K5

/-! k05: zip of a tuple, or of an own iterable that walks a tuple, with a list. -/
namespace K5
open PySem PySem.Spec PyProof.Rows L2 LamX K1 K18

def zHp (h : Heap) (u v : Value) : Heap :=
  ((h.push { cls := .type "tuple", data := .seq #[u, v] }).push { cls := .type "tuple", data := .seq #[.none, .none] }).push { cls := .type "zip", data := .fields #[.none, .bool false, .bool false, .ref h.objs.size, .ref (h.objs.size + 1)] }
theorem zHp_at {h : Heap} {u v : Value} : IsZip (zHp h u v) (h.objs.size + 2) h.objs.size (h.objs.size + 1) .none ∧ IsPair (zHp h u v) h.objs.size u v ∧ IsPair (zHp h u v) (h.objs.size + 1) .none .none ∧ ∀ c o, h.get? c = some o → (zHp h u v).get? c = some o := by
  have g1 : IsPair (h.push { cls := .type "tuple", data := .seq #[u, v] }) h.objs.size u v := Heap.get?_push_size _ rfl
  have z1 : (h.push { cls := .type "tuple", data := .seq #[u, v] }).objs.size = h.objs.size + 1 := Heap.size_push ..
  have g2 := Heap.get?_push_size (h.push { cls := .type "tuple", data := .seq #[u, v] }) (o := { cls := .type "tuple", data := .seq #[.none, .none] }) rfl
  rw [z1] at g2
  have z2 : ((h.push { cls := .type "tuple", data := .seq #[u, v] }).push { cls := .type "tuple", data := .seq #[.none, .none] }).objs.size = h.objs.size + 2 := by rw [Heap.size_push, z1]
  have g3 := Heap.get?_push_size ((h.push { cls := .type "tuple", data := .seq #[u, v] }).push { cls := .type "tuple", data := .seq #[.none, .none] }) (o := { cls := .type "zip", data := .fields #[.none, .bool false, .bool false, .ref h.objs.size, .ref (h.objs.size + 1)] }) rfl
  rw [z2] at g3
  exact ⟨g3, Heap.get?_push_of_some _ (Heap.get?_push_of_some _ g1), Heap.get?_push_of_some _ g2, fun c o e => Heap.get?_push_of_some _ (Heap.get?_push_of_some _ (Heap.get?_push_of_some _ e))⟩
section
variable {prog : Program} {w : World} {A : Around} {E : Value → Shared → Prop} {s : Shared}
theorem zip_made {u v : Value} {Q : Value → Shared → Prop} (k : wpAny (model prog w) A (pyIter u) (fun x s1 => wpAny (model prog w) A (pyIter v) (fun y s2 => Q (.ref (s2.heap.objs.size + 2)) { s2 with heap := zHp s2.heap x y }) E s1) E s) :
    wpAny (model prog w) A (Builtin.«zip.__new__» ⟨[.type "zip", u, v], []⟩) (fun fin s' => ∃ r, fin = .done (.ret r) ∧ Q r s') E s := by
  have hsub := sub_zip
  obtain ⟨hp, g, d, tk, os⟩ := s
  have m1 : ∀ {Q' : Value → Shared → Prop}, (∀ x s1, wpAny (model prog w) A (pyIter v) (fun y s2 => Q (.ref (s2.heap.objs.size + 2)) { s2 with heap := zHp s2.heap x y }) E s1 → Q' x s1) → wpAny (model prog w) A (pyIter u) Q' E ⟨hp, g, d, tk, os⟩ := fun h => wpAny_mono k h fun _ _ z => z
  wp_walk using m1
  rintro x ⟨hp1, g1, d1, tk1, os1⟩ k1
  have m2 : ∀ {Q' : Value → Shared → Prop}, (∀ y s2, Q (.ref (s2.heap.objs.size + 2)) { s2 with heap := zHp s2.heap x y } → Q' y s2) → wpAny (model prog w) A (pyIter v) Q' E ⟨hp1, g1, d1, tk1, os1⟩ := fun h => wpAny_mono k1 h fun _ _ z => z
  wp_walk using m2
  rintro y ⟨hp2, g2, d2, tk2, os2⟩ k2
  wp_walk
  have z1 : (hp2.push { cls := .type "tuple", data := .seq #[x, y] }).objs.size = hp2.objs.size + 1 := Heap.size_push ..
  have z2 : ((hp2.push { cls := .type "tuple", data := .seq #[x, y] }).push { cls := .type "tuple", data := .seq #[.none, .none] }).objs.size = hp2.objs.size + 2 := by rw [Heap.size_push, z1]
  show ∃ r, Fin.done (Flow.ret (Value.ref ((hp2.push { cls := .type "tuple", data := .seq #[x, y] }).push { cls := .type "tuple", data := .seq #[.none, .none] }).objs.size)) = Fin.done (Flow.ret r) ∧
    Q r ⟨((hp2.push { cls := .type "tuple", data := .seq #[x, y] }).push { cls := .type "tuple", data := .seq #[.none, .none] }).push { cls := .type "zip", data := .fields #[.none, .bool false, .bool false, .ref hp2.objs.size, .ref (hp2.push { cls := .type "tuple", data := .seq #[x, y] }).objs.size] }, g2, d2, tk2, os2⟩
  rw [z2, z1]
  exact ⟨_, rfl, k2⟩
/-- zip(u, v): both are asked for their iterators -/
theorem zip_call {u v : Value} {Q : Value → Shared → Prop} (k : wpAny (model prog w) A.in1.in1 (pyIter u) (fun x s1 => wpAny (model prog w) A.in1.in1 (pyIter v) (fun y s2 => Q (.ref (s2.heap.objs.size + 2)) { s2 with heap := zHp s2.heap x y }) E s1) E s) :
    wpAny (model prog w) A (call (.type "zip") [u, v]) Q E s := by
  refine callType_codes (Q₁ := fun o s1 => s1.TypeIs o "zip" ∧ Q o s1) F.called_zip (F.typeCall_zip_2 u v) F.entry_object_init ?_ fun o s1 h => ⟨h.1, F.args_object_init_3 o u v, ?_⟩
  · refine codeAny_call_builtin (by decide +kernel) F.entry_zip_new (wpAny_of_eq (F.newCall_zip_2 u v) ?_)
    refine wpAny_mono (zip_made (Q := fun r s' => s'.TypeIs r "zip" ∧ Q r s') (wpAny_mono k (fun x s1 h1 => wpAny_mono h1 (fun y s2 h2 => ⟨⟨_, zHp_at.1, rfl⟩, h2⟩) fun _ _ z => z) fun _ _ z => z)) (fun fin s' h => ?_) fun _ _ z => z
    obtain ⟨r, rfl, h1, h2⟩ := h
    exact ⟨h1, h2⟩
  · have g := object_init_meets (rest := [u, v]) (self := o) F.called_zip.init.lookup F.called_zip.made (by decide) prog w A.in1 (wants (fun r s2 => r = .none ∧ Q o s2) E) s1 ⟨h.1, rfl, h.2⟩
    exact g
/-- one more pair -/
theorem zipM_item {c I O i1 i2 t b : Addr} {k : Nat} {xs ys : Array Value} {x y u v : Value} {Q : Value → Shared → Prop} (D : ZipApart c I O i1 i2 t b) (hc : IsZip s.heap c I O .none) (hI : IsPair s.heap I (.ref i1) (.ref i2)) (hO : IsPair s.heap O u v)
    (h1 : s.heap.IsTupleIter i1 t k) (h2 : s.heap.IsListIter i2 b k) (ht : s.heap.IsTuple t xs) (hb : s.heap.IsList b ys) (hx : xs[k]? = some x) (hy : ys[k]? = some y)
    (q : ∀ g, IsZip g c I O (rawInt s.heap.objs.size) → IsPair g O x y → g.IsTupleIter i1 t (k + 1) → g.IsListIter i2 b (k + 1) → IsPair g s.heap.objs.size x y →
      (∀ d o, d ≠ c → d ≠ O → d ≠ i1 → d ≠ i2 → s.heap.get? d = some o → g.get? d = some o) → Q (.ref s.heap.objs.size) { s with heap := g }) :
    wpAny (model prog w) A (Builtin.«zip.__next__» ⟨[.ref c], []⟩) (fun fin s' => ∃ r, fin = .done (.ret r) ∧ Q r s') E s := by
  show wpAny _ _ (field (.ref c) 2 >>= _) _ _ _
  refine wpAny_bind (wpAny_field hc rfl (x := .bool false) rfl ?_)
  show wpAny _ _ (field (.ref c) 3 >>= _) _ _ _
  refine wpAny_bind (wpAny_field hc rfl (x := .ref I) rfl (wpAny_bind (wpAny_seqItems hI rfl ?_)))
  show wpAny _ _ (Builtin.SmallTypes.ownedTupleIsFree (.ref c) >>= _) _ _ _
  refine wpAny_bind ?_; unfold Builtin.SmallTypes.ownedTupleIsFree
  refine wpAny_bind (wpAny_field hc rfl (x := .none) rfl (wpAny_pure ?_)); simp only [if_true]
  refine wpAny_bind (wpAny_rule (wpAny_bind (wpAny_field hc rfl (x := .ref O) rfl (wpAny_bind (wpAny_setField_rec hc (by simp) fun g1 c1 e1 => ?_)))))
  replace c1 : IsZip g1 c I O .ellipsis := c1
  refine wpAny_bind ?_; simp only [List.zipIdx_nil, List.zipIdx_cons, List.forIn_nil, List.forIn_cons]
  refine wpAny_bind (wpAny_bind (wpAny_onRaise ?_))
  show wpAny _ _ (Builtin.SmallTypes.nextOf (.ref i1) >>= _) _ _ _
  refine wpAny_bind (RZ.nextOf_tuple_item (h1.extBut e1.extBut D.i1z) (ht.extBut e1.extBut D.l1z) hx fun g2 f1 e2 => wpAny_pure ?_)
  have o2 : IsPair g2 O u v := e2.extBut _ _ D.TOi1 (e1.extBut _ _ D.TOz hO)
  refine wpAny_bind (wpAny_seqItems o2 rfl (wpAny_bind (wpAny_updateSeq_pair o2 fun g3 o3 e3 => ?_)))
  replace o3 : IsPair g3 O x v := o3
  refine wpAny_bind (wpAny_letGo (wpAny_pure (wpAny_bind (wpAny_bind (wpAny_onRaise ?_)))))
  show wpAny _ _ (Builtin.SmallTypes.nextOf (.ref i2) >>= _) _ _ _
  refine wpAny_bind (wpAny_nextOf_list_item (((h2.extBut e1.extBut D.i2z).extBut e2.extBut D.i12.symm).extBut e3.extBut D.TOi2.symm) (((hb.extBut e1.extBut D.l2z).extBut e2.extBut D.l2i1).extBut e3.extBut D.l2TO) hy fun g4 f2 e4 => wpAny_pure ?_)
  have o4 : IsPair g4 O x v := e4.extBut _ _ D.TOi2 o3
  refine wpAny_bind (wpAny_seqItems o4 rfl (wpAny_bind (wpAny_updateSeq_pair o4 fun g5 o5 e5 => ?_)))
  replace o5 : IsPair g5 O x y := o5
  refine wpAny_bind (wpAny_letGo (wpAny_pure (wpAny_pure (wpAny_bind (wpAny_seqItems o5 rfl (wpAny_bind (wpAny_newTuple ?_)))))))
  have n5 : g5.objs.size = s.heap.objs.size := by rw [e5.1, e4.1, e3.1, e2.1, e1.1]
  have c5 : IsZip g5 c I O .ellipsis := e5.extBut _ _ D.TOz.symm (e4.extBut _ _ D.i2z.symm (e3.extBut _ _ D.TOz.symm (e2.extBut _ _ D.i1z.symm c1)))
  have k5 : ∀ d o, d ≠ c → d ≠ O → d ≠ i1 → d ≠ i2 → s.heap.get? d = some o → g5.get? d = some o := fun d o a1 a2 a3 a4 e => e5.extBut _ _ a2 (e4.extBut _ _ a4 (e3.extBut _ _ a2 (e2.extBut _ _ a3 (e1.extBut _ _ a1 e))))
  have p1 : g5.IsTupleIter i1 t (k + 1) := ((f1.extBut e3.extBut D.TOi1.symm).extBut e4.extBut D.i12).extBut e5.extBut D.TOi1.symm
  have p2 : g5.IsListIter i2 b (k + 1) := f2.extBut e5.extBut D.TOi2.symm
  have cl : c < g5.objs.size := Heap.lt_size c5
  show wpAny _ _ (Builtin.SmallTypes.ownedTupleHandOut (.ref c) (.ref g5.objs.size) >>= _) _ _ _
  refine wpAny_bind ?_; unfold Builtin.SmallTypes.ownedTupleHandOut
  have c6 : IsZip (g5.push { cls := .type "tuple", data := .seq #[x, y] }) c I O .ellipsis := Heap.get?_push_of_some _ c5
  refine wpAny_bind (wpAny_setField_rec c6 (by simp) fun g7 c7 e7 => ?_)
  replace c7 : IsZip g7 c I O (rawInt g5.objs.size) := c7
  refine wpAny_setField_rec c7 (by simp) fun g8 c8 e8 => wpAny_pure ⟨_, rfl, ?_⟩
  replace c8 : IsZip g8 c I O (rawInt g5.objs.size) := c8
  have up : ∀ d o, d ≠ c → g5.get? d = some o → g8.get? d = some o := fun d o a e => e8.extBut _ _ a (e7.extBut _ _ a (Heap.get?_push_of_some _ e))
  have t8 : IsPair g8 g5.objs.size x y := e8.extBut _ _ (Nat.ne_of_gt cl) (e7.extBut _ _ (Nat.ne_of_gt cl) (Heap.get?_push_size _ rfl))
  rw [n5] at c8 t8
  show Q (.ref g5.objs.size) _
  rw [n5]
  exact q g8 c8 (up _ _ D.TOz o5) (p1.at fun o e => up _ o D.i1z e) (p2.at fun o e => up _ o D.i2z e) t8 fun d o a1 a2 a3 a4 e => up d o a1 (k5 d o a1 a2 a3 a4 e)
/-- no more pairs -/
theorem zipM_end {c I O i1 i2 t b : Addr} {k : Nat} {xs ys : Array Value} {u v : Value} {Q : Fin → Shared → Prop} (hh : A.handled = none) (D : ZipApart c I O i1 i2 t b) (hc : IsZip s.heap c I O .none) (hI : IsPair s.heap I (.ref i1) (.ref i2)) (hO : IsPair s.heap O u v)
    (h1 : s.heap.IsTupleIter i1 t k) (h2 : s.heap.IsListIter i2 b k) (ht : s.heap.IsTuple t xs) (hb : s.heap.IsList b ys) (no : xs[k]? = none ∨ ys[k]? = none)
    (q : ∀ g e, (∀ d o, d ≠ c → d ≠ O → d ≠ i1 → d ≠ i2 → s.heap.get? d = some o → g.get? d = some o) → (∃ o, g.get? e = some o ∧ o.cls = .type "StopIteration") → E (.ref e) { s with heap := g }) :
    wpAny (model prog w) A (Builtin.«zip.__next__» ⟨[.ref c], []⟩) Q E s := by
  show wpAny _ _ (field (.ref c) 2 >>= _) _ _ _
  refine wpAny_bind (wpAny_field hc rfl (x := .bool false) rfl ?_)
  show wpAny _ _ (field (.ref c) 3 >>= _) _ _ _
  refine wpAny_bind (wpAny_field hc rfl (x := .ref I) rfl (wpAny_bind (wpAny_seqItems hI rfl ?_)))
  show wpAny _ _ (Builtin.SmallTypes.ownedTupleIsFree (.ref c) >>= _) _ _ _
  refine wpAny_bind ?_; unfold Builtin.SmallTypes.ownedTupleIsFree
  refine wpAny_bind (wpAny_field hc rfl (x := .none) rfl (wpAny_pure ?_)); simp only [if_true]
  refine wpAny_bind (wpAny_rule (wpAny_bind (wpAny_field hc rfl (x := .ref O) rfl (wpAny_bind (wpAny_setField_rec hc (by simp) fun g1 c1 e1 => ?_)))))
  replace c1 : IsZip g1 c I O .ellipsis := c1
  refine wpAny_bind ?_; simp only [List.zipIdx_nil, List.zipIdx_cons, List.forIn_nil, List.forIn_cons]
  refine wpAny_bind (wpAny_bind (wpAny_onRaise ?_))
  show wpAny _ _ (Builtin.SmallTypes.nextOf (.ref i1) >>= _) _ _ _
  cases hx : xs[k]? with
  | none =>
    refine wpAny_bind (RZ.nextOf_tuple_end hh (h1.extBut e1.extBut D.i1z) (ht.extBut e1.extBut D.l1z) hx fun g2 e e2 ⟨oe, he, ce⟩ => ?_)
    have c2 : IsZip g2 c I O .ellipsis := e2 _ _ D.i1z.symm c1
    have ne : e ≠ c := fun z => by subst z; rw [c2] at he; cases he; simp at ce
    refine wpAny_setField_rec c2 (by simp) fun g3 _ e3 => q g3 e (fun d o a1 _ a3 _ z => e3.extBut _ _ a1 (e2 _ _ a3 (e1.extBut _ _ a1 z))) ⟨oe, e3.extBut _ _ ne he, ce⟩
  | some x =>
    have hy : ys[k]? = none := no.resolve_left fun z => by rw [hx] at z; cases z
    refine wpAny_bind (RZ.nextOf_tuple_item (h1.extBut e1.extBut D.i1z) (ht.extBut e1.extBut D.l1z) hx fun g2 f1 e2 => wpAny_pure ?_)
    have o2 : IsPair g2 O u v := e2.extBut _ _ D.TOi1 (e1.extBut _ _ D.TOz hO)
    refine wpAny_bind (wpAny_seqItems o2 rfl (wpAny_bind (wpAny_updateSeq_pair o2 fun g3 o3 e3 => ?_)))
    refine wpAny_bind (wpAny_letGo (wpAny_pure (wpAny_bind (wpAny_bind (wpAny_onRaise ?_)))))
    show wpAny _ _ (Builtin.SmallTypes.nextOf (.ref i2) >>= _) _ _ _
    refine wpAny_bind (wpAny_nextOf_list_end hh (((h2.extBut e1.extBut D.i2z).extBut e2.extBut D.i12.symm).extBut e3.extBut D.TOi2.symm) (((hb.extBut e1.extBut D.l2z).extBut e2.extBut D.l2i1).extBut e3.extBut D.l2TO) hy fun g4 e e4 ⟨oe, he, ce⟩ => ?_)
    have c4 : IsZip g4 c I O .ellipsis := e4 _ _ D.i2z.symm (e3.extBut _ _ D.TOz.symm (e2.extBut _ _ D.i1z.symm c1))
    have ne : e ≠ c := fun z => by subst z; rw [c4] at he; cases he; simp at ce
    refine wpAny_setField_rec c4 (by simp) fun g5 _ e5 => q g5 e (fun d o a1 a2 a3 a4 z => e5.extBut _ _ a1 (e4 _ _ a4 (e3.extBut _ _ a2 (e2.extBut _ _ a3 (e1.extBut _ _ a1 z))))) ⟨oe, e5.extBut _ _ ne he, ce⟩
end
end K5

/-! k05: loops over zip of a tuple, or of an own iterable that walks a tuple, with a list. -/
namespace K5
open PySem PySem.Spec PyProof.Rows L2 LamX K1 K18

/-- the tuple at t and the list at b as they stand at each turn -/
def ItzM (K : PySem.W.Frag) (t b : Addr) : It :=
  ⟨fun i H => ∃ (xs ys : List V) (x y : V), SqT K H t xs ∧ SqL K H b ys ∧ xs[i]? = some x ∧ ys[i]? = some y,
    fun i H v H' => ∃ T x y, v = .ref T ∧ H T = none ∧ H' = upd H T (.tup [x, y]) ∧ (∀ xs, SqT K H t xs → xs[i]? = some x) ∧ ∀ ys, SqL K H b ys → ys[i]? = some y,
    fun i H => ∃ xs ys : List V, SqT K H t xs ∧ SqL K H b ys ∧ (xs.length ≤ i ∨ ys.length ≤ i)⟩
theorem walk_zipM {K : PySem.W.Frag} {t b : Addr} {xs ys : List V} {n : Nat} (hn : n = min xs.length ys.length) : Walk (ItzM K t b) n (fun H => SqT K H t xs ∧ SqL K H b ys) (YPair (fun i => xs[i]?) (fun i => ys[i]?)) := by
  subst hn
  refine ⟨fun i _ hi q => ⟨xs, ys, xs[i]'(by omega), ys[i]'(by omega), q.1, q.2, List.getElem?_eq_getElem _, List.getElem?_eq_getElem _⟩, fun _ q => ⟨xs, ys, q.1, q.2, by omega⟩, fun i H v H' _ q y => ?_⟩
  obtain ⟨T, x, z, h1, h2, h3, h4, h5⟩ := y
  exact ⟨T, x, z, h1, h2, h3, h4 xs q.1, h5 ys q.2⟩
def ZSt (c I O i1 i2 t b : Addr) (i : Nat) (h : Heap) : Prop := IsZip h c I O .none ∧ IsPair h I (.ref i1) (.ref i2) ∧ (∃ x y, IsPair h O x y) ∧ h.IsTupleIter i1 t i ∧ h.IsListIter i2 b i
section
variable {prog : Program} {w : World} {A : Around} {E : Value → Shared → Prop} {s : Shared}
theorem nextM_item {c I O i1 i2 t b : Addr} {k : Nat} {xs ys : Array Value} {x y : Value} {Q : Option Value → Shared → Prop} (D : ZipApart c I O i1 i2 t b) (st : ZSt c I O i1 i2 t b k s.heap) (ht : s.heap.IsTuple t xs) (hb : s.heap.IsList b ys) (hx : xs[k]? = some x) (hy : ys[k]? = some y)
    (q : ∀ g, IsZip g c I O (rawInt s.heap.objs.size) → IsPair g O x y → g.IsTupleIter i1 t (k + 1) → g.IsListIter i2 b (k + 1) → IsPair g s.heap.objs.size x y →
      (∀ d o, d ≠ c → d ≠ O → d ≠ i1 → d ≠ i2 → s.heap.get? d = some o → g.get? d = some o) → Q (some (.ref s.heap.objs.size)) { s with heap := g }) :
    wpAny (model prog w) A (pyNext (.ref c)) Q E s := by
  obtain ⟨hc, hI, ⟨u, v, hO⟩, h1, h2⟩ := st
  have T : s.TypeIs (.ref c) "zip" := ⟨_, hc, rfl⟩
  unfold pyNext
  exact wpAny_bind (wpAny_attempt (wpAny_callSpecial?_slot (name := Str.ofString "__next__") T F.slot_zip_next (wpAny_call_entry F.slot_zip_next T F.entry_zip_next
    (zipM_item D hc hI hO h1 h2 ht hb hx hy fun g a1 a2 a3 a4 a5 a6 => wpAny_pure (q g a1 a2 a3 a4 a5 a6)) (F.args_zip_next_1 _))))
theorem nextM_end {c I O i1 i2 t b : Addr} {k : Nat} {xs ys : Array Value} {Q : Option Value → Shared → Prop} (hh : A.handled = none) (D : ZipApart c I O i1 i2 t b) (st : ZSt c I O i1 i2 t b k s.heap) (ht : s.heap.IsTuple t xs) (hb : s.heap.IsList b ys) (no : xs[k]? = none ∨ ys[k]? = none)
    (q : ∀ g, (∀ d o, d ≠ c → d ≠ O → d ≠ i1 → d ≠ i2 → s.heap.get? d = some o → g.get? d = some o) → Q none { s with heap := g }) : wpAny (model prog w) A (pyNext (.ref c)) Q E s := by
  obtain ⟨hc, hI, ⟨u, v, hO⟩, h1, h2⟩ := st
  have T : s.TypeIs (.ref c) "zip" := ⟨_, hc, rfl⟩
  unfold pyNext
  refine wpAny_bind (wpAny_attempt (wpAny_callSpecial?_slot (name := Str.ofString "__next__") T F.slot_zip_next (wpAny_call_entry F.slot_zip_next T F.entry_zip_next
    (zipM_end hh D hc hI hO h1 h2 ht hb no fun g e hk ⟨o, ho, co⟩ => ?_) (F.args_zip_next_1 _))))
  exact wpAny_bind (wpAny_isInstance (T := "StopIteration") (b := true) ⟨o, ho, co⟩ isSubtype_stop (wpAny_pure (q _ hk)))
end
theorem mem5 {c I O i1 i2 d : Addr} (h : d ∈ [c, I, O, i1, i2]) : d = c ∨ d = I ∨ d = O ∨ d = i1 ∨ d = i2 := by simpa using h
theorem turn_zipM {P : Program} {w : World} {K : PySem.W.Frag} {elts : List Expr} {kk : Nat} {tpos : Pos} {c I O i1 i2 t b : Addr} (D : ZipApart c I O i1 i2 t b) : Turn P w K (.Tuple elts kk tpos) (ItzM K t b) [c, I, O, i1, i2] c (ZSt c I O i1 i2 t b) where
  mem := by simp
  obj := fun i h ⟨a1, a2, ⟨x, y, a3⟩, ⟨o1, e1, _, d1⟩, ⟨o2, e2, _, d2⟩⟩ d hd => by
    rcases mem5 hd with q | q | q | q | q
    · subst q; exact ⟨_, a1, fun v q => nomatch q⟩
    · subst q; exact ⟨_, a2, fun v q => nomatch q⟩
    · subst q; exact ⟨_, a3, fun v q => nomatch q⟩
    · subst q; exact ⟨o1, e1, fun v q => by rw [d1] at q; cases q⟩
    · subst q; exact ⟨o2, e2, fun v q => by rw [d2] at q; cases q⟩
  keep := fun i h h' ⟨a1, a2, ⟨x, y, a3⟩, a4, a5⟩ k => ⟨k c (by simp) _ a1, k I (by simp) _ a2, ⟨x, y, k O (by simp) _ a3⟩, a4.at fun o q => k i1 (by simp) o q, a5.at fun o q => k i2 (by simp) o q⟩
  item := by
    intro X hP hw hK hc i pins s σ H E J hf st ⟨xs, ys, x, y, hqx, hqy, hx, hy⟩
    subst hP hw hK
    obtain ⟨its, rv, p, _⟩ := J.tuple hqx
    obtain ⟨its2, rv2, p2, _⟩ := J.list hqy
    obtain ⟨u, hu, ru⟩ := rv.get hx
    obtain ⟨u2, hu2, ru2⟩ := rv2.get hy
    have cl : c < s.heap.objs.size := Heap.lt_size st.1
    have lt : ∀ d ∈ [c, I, O, i1, i2], d < s.heap.objs.size := fun d hd => by
      obtain ⟨a1, a2, ⟨x', y', a3⟩, ⟨o1, e1, _⟩, ⟨o2, e2, _⟩⟩ := id st
      rcases mem5 hd with q | q | q | q | q
      · subst q; exact Heap.lt_size a1
      · subst q; exact Heap.lt_size a2
      · subst q; exact Heap.lt_size a3
      · subst q; exact Heap.lt_size e1
      · subst q; exact Heap.lt_size e2
    have hI := st.2.1
    refine nextM_item D st p p2.isList (x := u) (y := u2) (by simpa using hu) (by simpa using hu2) fun g c' O' h1' h2' hT hk => ⟨_, rfl, wpAny_letOwnedTupleGo_zip (s := { s with heap := g }) c' fun g2 c2 sb => ?_⟩
    have T2 : g2.get? s.heap.objs.size = some { cls := .type "tuple", data := .seq #[u, u2] } := (sb.2 _ (Nat.ne_of_gt cl)).trans hT
    have new : ObjOk X.prog X.w (upd H s.heap.objs.size (.tup [x, y])) g2 s.heap.objs.size (.tup [x, y]) := ⟨by show 2 ≤ sizeLine; decide, [u, u2], .cons ru (.cons ru2 .nil), ⟨_, T2, rfl, _, rfl⟩⟩
    have kp : ∀ d o, d ∉ [c, I, O, i1, i2] → s.heap.get? d = some o → g2.get? d = some o := fun d o hd e => by
      simp only [List.mem_cons, List.not_mem_nil, or_false, not_or] at hd
      exact (sb.2 d hd.1).trans (hk d o hd.1 hd.2.2.1 hd.2.2.2.1 hd.2.2.2.2 e)
    refine ⟨.ref s.heap.objs.size, _, J.turnedNew (t' := s.toks) (ch := [c, I, O, i1, i2]) kp hf (Nat.le_refl _) new, rfl, ⟨_, x, y, rfl, J.hok.fresh (Nat.le_refl _), rfl, fun l hl => by rw [J.tuple_inj hl hqx]; exact hx, fun l hl => by rw [J.list_inj hl hqy]; exact hy⟩, ⟨c2, ?_, ⟨u, u2, ?_⟩, ?_, ?_⟩, fun d hd => ?_⟩
    · exact (sb.2 _ D.TIz).trans (hk _ _ D.TIz D.TITO D.TIi1 D.TIi2 hI)
    · exact (sb.2 _ D.TOz).trans O'
    · exact h1'.at fun o q => (sb.2 _ D.i1z).trans q
    · exact h2'.at fun o q => (sb.2 _ D.i2z).trans q
    · rw [upd_ne (Nat.ne_of_lt (lt d hd))]
      exact (hf d hd).1
  done := by
    intro X hP hw hK hc i pins s σ H E J hf st ⟨xs, ys, hqx, hqy, hend⟩
    subst hP hw hK
    obtain ⟨its, rv, p, _⟩ := J.tuple hqx
    obtain ⟨its2, rv2, p2, _⟩ := J.list hqy
    have l1 := rv.length
    have l2 := rv2.length
    refine nextM_end (J.ok.hd hc) D st p p2.isList (hend.imp (fun q => by simp; omega) fun q => by simp; omega) fun g hk => ⟨rfl, J.turnedL (t' := s.toks) (ch := [c, I, O, i1, i2]) (fun d o hd e => ?_) hf⟩
    simp only [List.mem_cons, List.not_mem_nil, or_false, not_or] at hd
    exact hk d o hd.1 hd.2.2.1 hd.2.2.2.1 hd.2.2.2.2 e
  self := fun A i s Q E st h => wpAny_pyIter_zip st.1 h
end K5

/-! k05: loops over zip of a tuple, or of a Swap, with a list. -/
namespace K5
open PySem PySem.Spec PyProof.Rows L2 LamX K1 K18

theorem own_it {M : Model} {A : Around} {E : Value → Shared → Prop} {s : Shared} {Q : Value → Shared → Prop} {it t : Addr} {i : Nat} (h : s.heap.IsTupleIter it t i) (q : Q (.ref it) s) : PySem.W.OwitIt M A Q E (.ref it) s := by
  unfold PySem.W.OwitIt
  exact wpAny_specialOf h.typeIs F.slot_tuple_iterator_next.lookup q
/-- iter(t), t a tuple; the iterator lies behind all that stood at the entry -/
def rIterN (K : PySem.W.Frag) (n : Nat) : List V → Hp → VK → Prop := fun xs H Q => ∃ (t : Addr) (zs : List V), xs = [.ref t] ∧ SqT K H t zs ∧ ∀ it, n ≤ it → H it = none → Q (.ref it) (upd H it (ItT t it 0))
theorem call_iterN {X : Cx} {K : PySem.W.Frag} {n : Nat} (hK : X.K = K) (hn : X.s_0.heap.objs.size = n) : CallR X (.builtin "iter") (rIterN K n) := by
  subst hK hn
  intro pins s σ H xs us Q I r h
  obtain ⟨t, zs, rfl, hq, k⟩ := h
  obtain rfl := Vals.ref1 r
  obtain ⟨its, rv, p, hz⟩ := I.tuple hq
  exact call_iterT0 p ⟨.ref s.heap.objs.size, _, I.laid (t' := s.toks) (fun b u e => Heap.get?_push_of_some _ e) (Nat.le_refl _) (itT_ok ⟨_, Heap.get?_push_size _ rfl, rfl, rfl⟩), rfl, k _ I.sz I.fresh⟩
/-- a Swap at a, its hands the tuple at t -/
def SwT (CS : Addr) (H : Hp) (a t : Addr) : Prop := (∃ dx ps pn, H a = some (.ins CS dx (fsS ps t pn))) ∧ ∃ xs, H t = some (.tup xs)
/-- Swap.__iter__ -/
structure IterO (P : Program) (w : World) (K : PySem.W.Frag) (mg : Str → Option Value) (base : Heap) (CS : Addr) : Prop where
  h : ∃ f fd, OwnM K CS "__iter__" f ∧ Binds K fd ["self"] [] ∧ ∀ (A : Around) (outer : List Env) (s : Shared) (H : Hp) (args : Args) (a t : Addr), Room 1 A → Env0 P w K mg base A outer s H → BindsTo s fd args ((["self"] : List Str).zip [.ref a]) → SwT CS H a t →
    codeAny (model P w) A (.call (.ref f) args) (CR CX0 outer P w H s (fun v H' => ∃ it, v = .ref it ∧ s.heap.objs.size ≤ it ∧ H it = none ∧ H' = upd H it (ItT t it 0)) E0) s
section
variable {P : Program} {w : World} {K : PySem.W.Frag} {mg : Str → Option Value} {base : Heap} {f CS : Addr} {fd : FuncData}
theorem iterO_of (G : Glob mg) (R : SwapF K CS) (F : DefAt K "__iter__" "Swap.__iter__" sSIter f fd) (M : OwnM K CS "__iter__" f) (B : Binds K fd ["self"] []) : IterO P w K mg base CS := by
  refine ⟨f, fd, M, B, fun A outer s H args a t hr e0 hb h => ?_⟩
  obtain ⟨oc, od, dV, kV, doc, pm, an, cdv, ct, osl, rfl, lk, hcd, _, _⟩ := F.ex
  refine run_ofS (CX := CX0) (N := ["self"]) (ps := ["self"]) (us := [.ref a]) (vs := [.ref a]) lk hcd scIter hr e0 hb (.cons rfl .nil) rfl fun hr2 => ?_
  refine ⟨_, (pss_one (ps_ret (pe_callB (r := rIterN K s.heap.objs.size) (call_iterN rfl rfl) (by rfl) G.iter (by decide +kernel) (pa_cons (pe_fld (pv 0) rfl) pa_nil)))).nox, ?_⟩
  obtain ⟨⟨dx, ps, pn, h1⟩, xs, h2⟩ := h
  exact ⟨_, rfl, a, CS, dx, _, _, rfl, h1, R.cl, R.nH, fs_h _ _ _, t, _, rfl, SqT.of h2, fun it n nit => ⟨it, rfl, n, nit, rfl⟩⟩
end
theorem fp5 {X : Cx} {pins : List (Addr × Obj)} {H : Hp} {c I O i1 i2 : Addr} (h : FpOk X pins H c ∧ FpOk X pins H I ∧ FpOk X pins H O ∧ FpOk X pins H i1 ∧ FpOk X pins H i2) : ∀ d ∈ [c, I, O, i1, i2], FpOk X pins H d := fun d hd => by
  obtain ⟨h1, h2, h3, h4, h5⟩ := h
  rcases mem5 hd with rfl | rfl | rfl | rfl | rfl <;> assumption
def iZipM (K : PySem.W.Frag) (ta : TA) : TI := fun σ H R => ta σ H fun vs H1 => ∃ t b xs ys, vs = [.ref t, .ref b] ∧ SqT K H1 t xs ∧ SqL K H1 b ys ∧ R (ItzM K t b) H1
theorem pi_zipM {X : Cx} {e e2 : Expr} {ta : TA} {p pos tpos : Pos} {elts : List Expr} {kk : Nat} (hg : Gl X "zip") (hm : X.mg "zip" = none) (ha : PA X [e, e2] ta)
    (hs : starEach [e, e2] X.env = (false, eval e X.env) :: starEach [e2] X.env := by rfl) (hpl : (backTo pos (starEach [e2] X.env)).any (·.1) = false := by rfl) : PI X (.Tuple elts kk tpos) (.Call (.Name "zip" p) [e, e2] [] pos) (iZipM X.K ta) := by
  refine ⟨fun pins s σ H R I h => Call_ (ld_blt I hg hm PyProof.Rows.boot_zip (PyProof.Rows.callWith_type1 (thn (ha.run pos pins s σ H _ I h) fun us s1 ⟨vs, H1, I1, r1, t, b, xs, ys, ex, hqx, hqy, q⟩ => ?_) hs hpl))⟩
  subst ex
  obtain ⟨ut, ub, rfl, rt, rb⟩ := vals2 r1
  obtain rfl : ut = Value.ref t := rt
  obtain rfl : ub = Value.ref b := rb
  obtain ⟨its, rv, p1, _⟩ := I1.tuple hqx
  obtain ⟨its2, rv2, p2, _⟩ := I1.list hqy
  obtain ⟨o1, ho1, _⟩ := id p1
  have b2 := p2.isList
  obtain ⟨o2, ho2, _⟩ := id b2
  have lt := Heap.lt_size ho1
  have lb := Heap.lt_size ho2
  have n1 : (s1.heap.push { cls := .type "tuple_iterator", data := .fields #[.ref t, .int 0 0] }).objs.size = s1.heap.objs.size + 1 := Heap.size_push ..
  have n2 : ((s1.heap.push { cls := .type "tuple_iterator", data := .fields #[.ref t, .int 0 0] }).push { cls := .type "list_iterator", data := .fields #[.ref b, .int 0 0] }).objs.size = s1.heap.objs.size + 2 := by rw [Heap.size_push, n1]
  refine zip_call (wpAny_pyIter_tuple p1 (wpAny_pyIter_list (Heap.IsList.push b2 _) ?_))
  obtain ⟨z1, z2, z3, z4⟩ := zHp_at (h := (s1.heap.push { cls := .type "tuple_iterator", data := .fields #[.ref t, .int 0 0] }).push { cls := .type "list_iterator", data := .fields #[.ref b, .int 0 0] }) (u := .ref s1.heap.objs.size) (v := .ref (s1.heap.objs.size + 1))
  have g1 : (s1.heap.push { cls := .type "tuple_iterator", data := .fields #[.ref t, .int 0 0] }).get? s1.heap.objs.size = some _ := Heap.get?_push_size _ rfl
  have g2 := Heap.get?_push_size (s1.heap.push { cls := .type "tuple_iterator", data := .fields #[.ref t, .int 0 0] }) (o := { cls := .type "list_iterator", data := .fields #[.ref b, .int 0 0] }) rfl
  show wpAny _ _ (pyIter (.ref (((s1.heap.push { cls := .type "tuple_iterator", data := .fields #[.ref t, .int 0 0] }).push { cls := .type "list_iterator", data := .fields #[.ref b, .int 0 0] }).objs.size + 2))) _ _ { s1 with heap := zHp ((s1.heap.push { cls := .type "tuple_iterator", data := .fields #[.ref t, .int 0 0] }).push { cls := .type "list_iterator", data := .fields #[.ref b, .int 0 0] }) (.ref s1.heap.objs.size) (.ref (s1.heap.push { cls := .type "tuple_iterator", data := .fields #[.ref t, .int 0 0] }).objs.size) }
  rw [n1]
  have kp : ∀ c o, s1.heap.get? c = some o → (zHp ((s1.heap.push { cls := .type "tuple_iterator", data := .fields #[.ref t, .int 0 0] }).push { cls := .type "list_iterator", data := .fields #[.ref b, .int 0 0] }) (.ref s1.heap.objs.size) (.ref (s1.heap.objs.size + 1))).get? c = some o := fun c o e => z4 c o (Heap.get?_push_of_some _ (Heap.get?_push_of_some _ e))
  have i1 := z4 _ _ (Heap.get?_push_of_some _ g1)
  have i2 := z4 _ _ g2
  rw [n1] at i2
  rw [n2] at z1 z2 z3 ⊢
  generalize zHp ((s1.heap.push { cls := .type "tuple_iterator", data := .fields #[.ref t, .int 0 0] }).push { cls := .type "list_iterator", data := .fields #[.ref b, .int 0 0] }) (.ref s1.heap.objs.size) (.ref (s1.heap.objs.size + 1)) = h5 at *
  have fr : ∀ d, s1.heap.objs.size ≤ d → FpOk X pins H1 d := fun d hd => I1.fpOk hd (I1.hok.fresh hd)
  exact wpAny_pyIter_zip (s := { s1 with heap := h5 }) z1 ⟨s1.heap.objs.size + 2 + 2, [s1.heap.objs.size + 2 + 2, s1.heap.objs.size + 2, s1.heap.objs.size + 2 + 1, s1.heap.objs.size, s1.heap.objs.size + 1], _, _, H1, rfl, I1.kept (t' := s1.toks) kp, turn_zipM (PySem.W.ktu_apart s1.heap.objs.size t b lt lb), ⟨z1, z2, ⟨_, _, z3⟩, ⟨_, i1, rfl, rfl⟩, ⟨_, i2, rfl, rfl⟩⟩,
    fp5 ⟨fr _ (by omega), fr _ (by omega), fr _ (by omega), fr _ (Nat.le_refl _), fr _ (by omega)⟩, q⟩
theorem delH_upd {H : Hp} {a : Addr} {o : HO} (h : H a = none) : delH (upd H a o) a = H := by
  funext b
  unfold delH
  by_cases e : b = a
  · rw [if_pos e, e, h]
  · rw [if_neg e, upd_ne e]
theorem apartO (I it t b : Nat) (h1 : t < I) (h2 : b < I) (h3 : it < I) (h4 : t ≠ it) (h5 : b ≠ it) : ZipApart (I + 1 + 2) (I + 1) (I + 1 + 1) it I t b := by
  constructor <;> (refine fun (z : @Eq Nat _ _) => ?_; omega)
def iZipO (X : Cx) (CS : Addr) (ta : TA) : TI := fun σ H R => ta σ H fun vs H1 => ∃ a t b xs ys, vs = [.ref a, .ref b] ∧ SwT CS H1 a t ∧ SqT X.K H1 t xs ∧ SqL X.K H1 b ys ∧ H1 b = some (.lst ys) ∧ (∀ it, H1 it = none → X.H_0 it = none) ∧ R (ItzM X.K t b) H1
theorem pi_zipO {X : Cx} {CS : Addr} {e e2 : Expr} {ta : TA} {p pos tpos : Pos} {elts : List Expr} {kk : Nat} (hg : Gl X "zip") (hm : X.mg "zip" = none) (IO : IterO X.prog X.w X.K X.mg X.base CS) (hr : Room 3 X.A) (hex : X.ex = []) (ha : PA X [e, e2] ta)
    (hs : starEach [e, e2] X.env = (false, eval e X.env) :: starEach [e2] X.env := by rfl) (hpl : (backTo pos (starEach [e2] X.env)).any (·.1) = false := by rfl) : PI X (.Tuple elts kk tpos) (.Call (.Name "zip" p) [e, e2] [] pos) (iZipO X CS ta) := by
  obtain ⟨fi, fdi, M, B, run⟩ := IO.h
  refine ⟨fun pins s σ H R I h => Call_ (ld_blt I hg hm PyProof.Rows.boot_zip (PyProof.Rows.callWith_type1 (thn (ha.run pos pins s σ H _ I h) fun us s1 ⟨vs, H1, I1, r1, a, t, b, xs, ys, ex, sw, hqx, hqy, hb1, h0, q⟩ => ?_) hs hpl))⟩
  subst ex
  obtain ⟨ua, ub, rfl, ra, rb⟩ := vals2 r1
  obtain rfl : ua = Value.ref a := ra
  obtain rfl : ub = Value.ref b := rb
  obtain ⟨⟨dx, ps, pn, h1⟩, xs0, ht⟩ := id sw
  obtain ⟨mA, O, _⟩ := ins_get I1.hok h1
  obtain ⟨od, J, _⟩ := O.look
  obtain ⟨m, hF⟩ := I1.fr
  refine zip_call (PySem.W.owit_iter hF I1.ok.mod.kin J M.at_ M.fn (wpAny_call (codeAny_mono (run X.A.in1.in1 X.stack s1 H1 ⟨[.ref a], []⟩ a t hr.in1.in1 I1.env0.in1.in1 (by
    have z := B s1 [.ref a] I1.kIn (by simp)
    simpa using z) sw) fun r s2 hq => ?_)))
  cases r with
  | error e => exact (show False from hq).elim
  | ok fl =>
    cases fl with
    | next => exact False.elim hq
    | brk => exact False.elim hq
    | cont => exact False.elim hq
    | ret u =>
      obtain ⟨v, H2, I2, rv, it, rfl, hle, nit, rfl⟩ := I1.after hq
      obtain rfl : u = Value.ref it := rv
      have hit : s2.heap.IsTupleIter it t 0 := (I2.hok it _ upd_same).1
      refine own_it hit ?_
      have tne : t ≠ it := ne_of_none ht nit
      have bne : b ≠ it := ne_of_none hb1 nit
      obtain ⟨G, gs, ga, I3⟩ := I2.untrack upd_same (fr0_none (h0 it nit)) hex
      rw [delH_upd nit] at I3
      have I4 : Inv X pins σ H1 s2 := I3.kept (t' := s2.toks) gs
      obtain ⟨its, rvx, p1, _⟩ := I4.tuple hqx
      obtain ⟨its2, rvy, p2, _⟩ := I4.list hqy
      obtain ⟨o1, ho1, _⟩ := id p1
      have b2 := p2.isList
      obtain ⟨o2, ho2, _⟩ := id b2
      obtain ⟨oi, hoi, _⟩ := id hit
      have lt := Heap.lt_size ho1
      have lb := Heap.lt_size ho2
      have li := Heap.lt_size hoi
      have n1 : (s2.heap.push { cls := .type "list_iterator", data := .fields #[.ref b, .int 0 0] }).objs.size = s2.heap.objs.size + 1 := Heap.size_push ..
      refine wpAny_pyIter_list b2 ?_
      obtain ⟨z1, z2, z3, z4⟩ := zHp_at (h := s2.heap.push { cls := .type "list_iterator", data := .fields #[.ref b, .int 0 0] }) (u := .ref it) (v := .ref s2.heap.objs.size)
      have g2 := Heap.get?_push_size s2.heap (o := { cls := .type "list_iterator", data := .fields #[.ref b, .int 0 0] }) rfl
      show wpAny _ _ (pyIter (.ref ((s2.heap.push { cls := .type "list_iterator", data := .fields #[.ref b, .int 0 0] }).objs.size + 2))) _ _ { s2 with heap := zHp (s2.heap.push { cls := .type "list_iterator", data := .fields #[.ref b, .int 0 0] }) (.ref it) (.ref s2.heap.objs.size) }
      have kp : ∀ c o, s2.heap.get? c = some o → (zHp (s2.heap.push { cls := .type "list_iterator", data := .fields #[.ref b, .int 0 0] }) (.ref it) (.ref s2.heap.objs.size)).get? c = some o := fun c o e => z4 c o (Heap.get?_push_of_some _ e)
      have i2 := z4 _ _ g2
      rw [n1] at z1 z2 z3 ⊢
      generalize zHp (s2.heap.push { cls := .type "list_iterator", data := .fields #[.ref b, .int 0 0] }) (.ref it) (.ref s2.heap.objs.size) = h5 at *
      have fr : ∀ d, s2.heap.objs.size ≤ d → FpOk X pins H1 d := fun d hd => I4.fpOk hd (I4.hok.fresh hd)
      have D := apartO s2.heap.objs.size it t b lt lb li tne bne
      exact wpAny_pyIter_zip (s := { s2 with heap := h5 }) z1 ⟨s2.heap.objs.size + 1 + 2, [s2.heap.objs.size + 1 + 2, s2.heap.objs.size + 1, s2.heap.objs.size + 1 + 1, it, s2.heap.objs.size], _, _, H1, rfl, I4.kept (t' := s2.toks) kp, turn_zipM D, ⟨z1, z2, ⟨_, _, z3⟩, hit.at fun o e => kp _ o e, ⟨_, i2, rfl, rfl⟩⟩,
        fp5 ⟨fr _ (by omega), fr _ (by omega), fr _ (by omega), I1.fpOk hle nit, fr _ (Nat.le_refl _)⟩, q⟩
end K5

/-! k05: _law_is_line, _law_has. -/
namespace K5
open PySem PySem.Spec PyProof.Rows L2 LamX K1 K18

def spIsLine (C : Addr) : Sp := fun vs H Q _ => ∃ (p d : Addr) (qs : List Addr) (zs : List Int), vs = [.ref p, .ref d] ∧ H p = some (.tup (qs.map V.ref)) ∧ All2 (Six C H) qs zs ∧ H d = some (.lst (zs.map V.int)) ∧ LineSm zs ∧ zs.length ≤ 6 ∧ ∀ H', Same H H' → Q (.bl true) H'
section
variable {P : Program} {w : World} {K : PySem.W.Frag} {mg : Str → Option Value} {base : Heap} {f C CH CS : Addr} {fd : FuncData}
abbrev HasIs (P : Program) (w : World) (K : PySem.W.Frag) (mg : Str → Option Value) (base : Heap) (C : Addr) : Prop := Has P w K mg base CX0 1 "_law_is" ["_law_value", "_law_sixths"] (spIs C)
abbrev nIsLine : List Str := ["_law_value", "_law_line_here", "_law_one", "_law_sixths"]
theorem scIsLine : FnScope nIsLine ["_law_value", "_law_line_here"] (defScope sIsLine) := ⟨rfl, rfl, rfl, by decide +kernel, rfl, by decide +kernel, by decide +kernel⟩
theorem six_up {H : Hp} {a D : Addr} {s : Int} {o : HO} (hD : H D = none) (z : Six C H a s) : Six C (upd H D o) a s := z.same (upd_new hD)
theorem ok_isline (G : Glob mg) (HI : HasIs P w K mg base C) (F : DefAt K "_law_is_line" "_law_is_line" sIsLine f fd) : FnOk P w K mg base CX0 2 f fd ["_law_value", "_law_line_here"] (spIsLine C) := by
  obtain ⟨fi, fdi, mI, kI, bI, GI⟩ := HI.h
  refine okN F scIsLine (fun vs H Q E ⟨p, d, qs, zs, e, _⟩ => by rw [e]; rfl) (fun cdv A outer s H vs Q E hr ⟨p, d, qs, zs, e, hp, al, hd, sm, l6, q⟩ => ?_)
  subst e
  refine ⟨_, pss_cons (ps_if (PW.pt (pw_or (pt_not (pt_val (pe_callB call_isi (by rfl) G.isi (by decide +kernel) (pa_cons (pv 0) (pa_cons (pe_bltn (by rfl) G.tup (by decide +kernel) (v := .ty "tuple") rfl) pa_nil)))))
      (pw_or1 (pt_cmpR op_ne (pe_callB (r := rLenA K) (call_lenA rfl) (by rfl) G.len PySem.boot_len (pa_cons (pv 0) pa_nil)) (pe_callB (r := rLenA K) (call_lenA rfl) (by rfl) G.len PySem.boot_len (pa_cons (pv 1) pa_nil)) (nomark _))))) pss_dead pss_nil)
    (pss_one (ps_ret (pe_callB (cr_all rfl) (by rfl) G.all (by decide +kernel) (pa_cons
          (pe_lc (own := [("_law_one", 2), ("_law_sixths", 3)]) (g := gTup K 2 (gCons (gName 2) (gCons (gName 3) gNil))) (tt := tYes) rfl scIsLine.nd (pi_zipM (by rfl) G.zip (pa_cons (pv 0) (pa_cons (pv 1) pa_nil))) (blkOk_by (N := nIsLine) (sc := defScope sIsLine) (by decide +kernel))
            (fun _ _ _ _ _ => pg_tup (by rfl) (pgs_cons (pg_name (i := 2) scIsLine.nd rfl (Or.inl rfl)) (pgs_cons (pg_name (i := 3) scIsLine.nd rfl (Or.inl rfl)) pgs_nil))) (fun _ _ _ _ _ => pts_nil) (fun _ _ _ _ _ => pe_call GI hr rfl mI kI bI .nil pass0 (pa_cons (pv 2) (pa_cons (pv 3) pa_nil)))) pa_nil)))), ?_⟩
  have sz : sizeLine = 16777216 := sizeLine_eq
  have lq : qs.length = zs.length := al.1
  refine ⟨_, rfl, _, _, _, _, _, rfl, .ty "tuple", .base (.tup hp), kit_ty (a := "tuple") (b := "tuple") (r := true) (by decide +kernel), true, rfl, iteF ?_⟩
  refine ⟨_, rfl, p, _, rfl, .inr (SqT.of hp), _, rfl, d, _, rfl, .inl (SqL.of hd), rfl, false, ?_, iteF ?_⟩
  · rw [List.length_map, List.length_map, lq]
    exact congrArg V.bl (by rw [decI]; simp)
  refine ⟨_, rfl, _, rfl, p, d, qs.map V.ref, zs.map V.int, rfl, SqT.of hp, SqL.of hd, fun D hD => ?_⟩
  refine lc_it (walk_zipM (n := zs.length) (xs := qs.map V.ref) (ys := zs.map V.int) (by rw [List.length_map, List.length_map, lq, Nat.min_self])) (fun i H2 => Same H H2 ∧ H2 D = some (.lst (List.replicate i (V.bl true)))) ⟨upd_new hD, upd_same⟩ (fun i H2 _ z => ⟨SqT.of (z.1 _ _ hp), SqL.of (z.1 _ _ hd)⟩) ?_ ?_
  · rintro i v H2 H3 hi ⟨s2, h2⟩ ⟨T, x, y, rfl, nT, rfl, ex, ey⟩
    obtain ⟨a, ea, rfl⟩ := map_at ex
    obtain ⟨z, ez, rfl⟩ := map_at ey
    have s3 := upd_new (o := .tup [.ref a, .int z]) nT
    have hT : upd H2 T (.tup [.ref a, .int z]) T = some (.tup [.ref a, .int z]) := upd_same
    generalize upd H2 T (.tup [.ref a, .int z]) = H3 at s3 hT ⊢
    refine ⟨T, _, rfl, SqT.of hT, rfl, _, _, rfl, _, _, rfl, rfl, rfl, yes_of ⟨_, rfl, _, rfl, a, z, rfl, (al.2 i a z ea ez).same (s2.trans s3), sm z (List.mem_of_getElem? ez), ?_⟩⟩
    exact ⟨_, s3 _ _ h2, by rw [List.length_replicate]; omega, same_upd hD (s2.trans s3), by rw [rep_snoc, upd_same]⟩
  · rintro H2 ⟨s2, h2⟩
    refine ⟨D, List.replicate _ true, rfl, SqL.of (by rw [h2, List.map_replicate]), ?_⟩
    rw [all_true]
    exact q H2 s2
end
def spHas (C CH CS : Addr) : Sp := fun vs H Q _ => ∃ (a nm rw : Addr) (ns : List Str) (rs : List Row), vs = [.ref a, .ref nm, .ref rw] ∧ SwAt C CH CS H a ns (rs.map (mkH ns)) ∧ H nm = some (.lst (ns.map V.str)) ∧ ns.length ≤ 6 ∧ ns.Nodup ∧ (∀ n ∈ ns, Nm n) ∧
  RwL H rw rs ∧ (∀ r ∈ rs, RwOk ns.length r) ∧ rs.length ≤ 60 ∧ ∀ H', Same H H' → Q (.bl true) H'
section
variable {P : Program} {w : World} {K : PySem.W.Frag} {mg : Str → Option Value} {base : Heap} {f C CH CS : Addr} {fd : FuncData}
abbrev HasIsLine (P : Program) (w : World) (K : PySem.W.Frag) (mg : Str → Option Value) (base : Heap) (C : Addr) : Prop := Has P w K mg base CX0 2 "_law_is_line" ["_law_value", "_law_line_here"] (spIsLine C)
abbrev HasLine (P : Program) (w : World) (K : PySem.W.Frag) (mg : Str → Option Value) (base : Heap) : Prop := Has P w K mg base CX0 1 "_law_line" ["_law_strangers", "_law_rows_here"] spLine
abbrev nHas : List Str := ["_law_swap", "_law_names_here", "_law_rows_here", "_law_hand", "_law_row"]
theorem scHas : FnScope nHas ["_law_swap", "_law_names_here", "_law_rows_here"] (defScope sHas) := ⟨rfl, rfl, rfl, by decide +kernel, rfl, by decide +kernel, by decide +kernel⟩
theorem ok_has (G : Glob mg) (R : SwapF K CS) (RH : HandF K CH) (gS : mg "Swap" = some (.ref CS)) (IO : IterO P w K mg base CS) (LO : LenO P w K mg base C CH CS) (HI : HasIs P w K mg base C) (HL : HasIsLine P w K mg base C) (HN : HasLine P w K mg base) (F : DefAt K "_law_has" "_law_has" sHas f fd) : FnOk P w K mg base CX0 4 f fd ["_law_swap", "_law_names_here", "_law_rows_here"] (spHas C CH CS) := by
  obtain ⟨fi, fdi, mI, kI, bI, GI⟩ := HI.h
  obtain ⟨fl, fdl, mL, kL, bL, GL⟩ := HL.h
  obtain ⟨fn, fdn, mN, kN, bN, GN⟩ := HN.h
  obtain ⟨fo, fdo, MO, bO, GO⟩ := LO.o.h
  refine okN F scHas (fun vs H Q E ⟨a, nm, rw, ns, rs, e, _⟩ => by rw [e]; rfl) (fun cdv A outer s H vs Q E hr ⟨a, nm, rw, ns, rs, e, ha, hnm, n6, nd, nmo, rwl, ok, l60, q⟩ => ?_)
  subst e
  have hu64 : (A.deeper (envOfC "_law_has" (defScope sHas) s.heap.objs.size f cdv)).units + 64 < cLine := by have := hr.un; omega
  have r1 := hr.mono (show 1 ≤ 3 by decide)
  refine ⟨_, pss_cons (ps_if (PW.pt (pw_or (pt_not (pt_val (pe_callB call_isi (by rfl) G.isi (by decide +kernel) (pa_cons (pv 0) (pa_cons (pe_glob (v := .ref CS) rfl gS rfl) pa_nil)))))
      (pw_or (pt_cmpR (op_neD hu64) (pe_fld (pv 0) rfl) (pe_callTy (r := rTupK K) (call_tupK rfl) (by rfl) G.tup (by decide +kernel) (pa_cons (pv 1) pa_nil)) (nomark _))
      (pw_or1 (pt_cmpR op_ne (pe_callB (call_lenO MO GO (hr.mono (by decide)) bO pass0) (by rfl) G.len PySem.boot_len (pa_cons (pv 0) pa_nil)) (pe_callB (r := rLenA K) (call_lenA rfl) (by rfl) G.len PySem.boot_len (pa_cons (pv 2) pa_nil)) (nomark _)))))) pss_dead pss_nil)
    (pss_cons (ps_for PassesOwn.never rfl (pi_zipO (by rfl) G.zip IO hr rfl (pa_cons (pv 0) (pa_cons (pv 2) pa_nil))) (pg_tup (by rfl) (pgs_cons (pg_name (i := 3) scHas.nd rfl (Or.inl rfl)) (pgs_cons (pg_name (i := 4) scHas.nd rfl (Or.inl rfl)) pgs_nil)))
      (pss_cons (ps_if (PW.pt (pw_or (pt_cmpR (op_neD hu64) (pe_tup (pa_cons (pe_fld (pv 3) rfl) (pa_cons (pe_fld (pv 3) rfl) pa_nil))) (pe_tup (pa_cons (pe_ix ix_list (pv 1) (pe_ix ix_tup (pv 4) pe_int (fun _ _ => rfl)) (fun _ _ => rfl)) (pa_cons (pe_ix ix_list (pv 1) (pe_ix ix_tup (pv 4) pe_int (fun _ _ => rfl)) (fun _ _ => rfl)) pa_nil))) (nomark _))
        (pw_or1 (pt_not (pt_val (pe_call GI r1 rfl mI kI bI .nil pass0 (pa_cons (pe_fld (pv 3) rfl) (pa_cons (pe_ix ix_tup (pv 4) pe_int (fun _ _ => rfl)) pa_nil)))))))) pss_dead pss_nil)
      (pss_one (ps_if (pt_not (pt_val (pe_call GI r1 rfl mI kI bI .nil pass0 (pa_cons (pe_fld (pv 3) rfl) (pa_cons (pe_ix ix_tup (pv 4) pe_int (fun _ _ => rfl)) pa_nil))))) pss_dead pss_nil))))
    (pss_one (ps_ret (pe_call GL (hr.mono (by decide)) rfl mL kL bL .nil pass0 (pa_cons (pe_fld (pv 0) rfl) (pa_cons (pe_call GN r1 rfl mN kN bN .nil pass0 (pa_cons (pe_callB (r := rLenA K) (call_lenA rfl) (by rfl) G.len PySem.boot_len (pa_cons (pv 1) pa_nil)) (pa_cons (pv 2) pa_nil))) pa_nil)))))), ?_⟩
  have sz : sizeLine = 16777216 := sizeLine_eq
  obtain ⟨dx, ps, ph, pn, as, nas, h1, h2, h3, h4, h5, h6⟩ := id ha
  have o1 := fun x m => nm_ok (nmo x m)
  refine ⟨_, rfl, _, _, _, _, _, rfl, .own CS, .base (R.ty h1), R.me, true, rfl, iteF ?_⟩
  refine ⟨_, rfl, a, CS, dx, _, _, rfl, h1, R.cl, R.nS, fs_s _ _ _, _, rfl, nm, _, rfl, .inl ⟨SqL.of hnm, fun p np => ?_⟩⟩
  have s1 := upd_new (o := .tup (ns.map V.str)) np
  have hp : upd H p (.tup (ns.map V.str)) p = some (.tup (ns.map V.str)) := upd_same
  generalize upd H p (.tup (ns.map V.str)) = H1 at s1 hp ⊢
  refine ⟨.tuple (ns.map PyData.str), .tuple (ns.map PyData.str), .tup (SqT.of (s1 _ _ h2)) (dps_S ns), .tup (SqT.of hp) (dps_S ns), (strs_sh o1).1, (strs_sh o1).1, false, by rw [strs_eqv]; simp, iteF ?_⟩
  obtain ⟨ras, hrw, ral⟩ := id rwl
  have lr := ral.1
  refine ⟨_, rfl, a, dx, _, rfl, s1 _ _ h1, a, ns, rs.map (mkH ns), rfl, ha.same s1, _, rfl, by omega, by rw [List.length_map]; omega, _, rfl, rw, _, rfl, .inl (SqL.of (s1 _ _ hrw)), rfl, false, ?_, iteF ?_⟩
  · rw [List.length_map, List.length_map, lr]
    exact congrArg V.bl (by rw [decI]; simp)
  have nH : ∀ it, H1 it = none → H it = none := fun it e => by
    cases z : H it with
    | none => rfl
    | some o => rw [s1 _ _ z] at e; cases e
  refine ⟨_, rfl, _, rfl, a, ph, rw, _, _, rfl, ⟨⟨dx, ps, pn, s1 _ _ h1⟩, _, s1 _ _ h3⟩, SqT.of (s1 _ _ h3), SqL.of (s1 _ _ hrw), s1 _ _ hrw, nH, ?_⟩
  refine for_it (walk_zipM (n := rs.length) (xs := as.map V.ref) (ys := ras.map V.ref) (by rw [List.length_map, List.length_map, lr, h4.1, List.length_map, Nat.min_self])) (fun i σ H3 => ∃ z3 z4 : Option V, σ = [some (V.ref a), some (.ref nm), some (.ref rw), z3, z4] ∧ Same H H3)
    ⟨none, none, rfl, s1⟩ (fun i σ H3 _ ⟨z3, z4, e, s3⟩ => ⟨SqT.of (s3 _ _ h3), SqL.of (s3 _ _ hrw)⟩) ?_ ?_
  · rintro i v σ H3 H4 hi ⟨z3, z4, rfl, s3⟩ ⟨T, x, y, rfl, nT, rfl, ex, ey⟩
    obtain ⟨u, eu, rfl⟩ := map_at ex
    obtain ⟨b, eb, rfl⟩ := map_at ey
    obtain ⟨r, er, rb⟩ := ral.get eb
    have ro := ok r (List.mem_of_getElem? er)
    have hu' := (h4.2 i u (mkH ns r) eu (by rw [List.getElem?_map, er]; rfl)).same s3
    have hrb : H3 b = some (.tup (rV r)) := s3 _ _ rb
    have s4 := upd_new (o := .tup [.ref u, .ref b]) nT
    have hT : upd H3 T (.tup [.ref u, .ref b]) T = some (.tup [.ref u, .ref b]) := upd_same
    generalize upd H3 T (.tup [.ref u, .ref b]) = H4 at s4 hT ⊢
    obtain ⟨du, pc, pd, k1, sc, sd⟩ := hu'.same s4
    have s34 := s3.trans s4
    have hrb4 := s4 _ _ hrb
    refine ⟨T, _, rfl, SqT.of hT, rfl, _, _, rfl, _, _, rfl, rfl, ?_⟩
    have at0 : atI (rV r) 0 = some (.int r.g) := atI_nat (j := 0) rfl
    have at1 : atI (rV r) 1 = some (.int r.t) := atI_nat (j := 1) rfl
    have at2 : atI (rV r) 2 = some (.int r.c) := atI_nat (j := 2) rfl
    have at3 : atI (rV r) 3 = some (.int r.d) := atI_nat (j := 3) rfl
    have hc := ro.cs
    have hdd := ro.ds
    refine ⟨_, rfl, u, CH, du, _, _, rfl, k1, RH.cl, RH.nG, fh_g _ _ _ _, _, rfl, u, CH, du, _, _, rfl, k1, RH.cl, RH.nT, fh_t _ _ _ _, (by show 2 ≤ sizeLine; omega), fun p1 np1 => ?_⟩
    have s5 := upd_new (o := .tup [.str (mkH ns r).g, .str (mkH ns r).t]) np1
    have hp1 : upd H4 p1 (.tup [.str (mkH ns r).g, .str (mkH ns r).t]) p1 = some (.tup [.str (mkH ns r).g, .str (mkH ns r).t]) := upd_same
    generalize upd H4 p1 (.tup [.str (mkH ns r).g, .str (mkH ns r).t]) = H5 at s5 hp1 ⊢
    have s35 := s34.trans s5
    have hrb5 := s5 _ _ hrb4
    refine ⟨_, rfl, _, rfl, b, _, _, _, rfl, rfl, SqT.of hrb5, at0, nm, _, _, _, rfl, rfl, SqL.of (s35 _ _ hnm), atI_nat (v := .str (ns.getD r.g "")) (by rw [List.getElem?_map, getD_at ro.g]; rfl), ?_⟩
    refine ⟨_, rfl, _, rfl, b, _, _, _, rfl, rfl, SqT.of hrb5, at1, nm, _, _, _, rfl, rfl, SqL.of (s35 _ _ hnm), atI_nat (v := .str (ns.getD r.t "")) (by rw [List.getElem?_map, getD_at ro.t]; rfl), (by show 2 ≤ sizeLine; omega), fun p2 np2 => ?_⟩
    have s6 := upd_new (o := .tup [.str (mkH ns r).g, .str (mkH ns r).t]) np2
    have hp2 : upd H5 p2 (.tup [.str (ns.getD r.g ""), .str (ns.getD r.t "")]) p2 = some (.tup [.str (mkH ns r).g, .str (mkH ns r).t]) := upd_same
    have s6 : Same H5 (upd H5 p2 (.tup [.str (ns.getD r.g ""), .str (ns.getD r.t "")])) := upd_new np2
    generalize upd H5 p2 (.tup [.str (ns.getD r.g ""), .str (ns.getD r.t "")]) = H6 at s6 hp2 ⊢
    have n2 : ∀ x ∈ [(mkH ns r).g, (mkH ns r).t], PyData.strOk x = true := fun x hx => by
      simp at hx
      rcases hx with rfl | rfl
      · exact nm_ok (nmo _ (getD_in ro.g))
      · exact nm_ok (nmo _ (getD_in ro.t))
    have s46 := s5.trans s6
    have k16 := s46 _ _ k1
    have hrb6 := s46 _ _ hrb4
    refine ⟨.tuple ([(mkH ns r).g, (mkH ns r).t].map PyData.str), .tuple ([(mkH ns r).g, (mkH ns r).t].map PyData.str), .tup (SqT.of (s6 _ _ hp1)) (dps_S [(mkH ns r).g, (mkH ns r).t]), .tup (SqT.of hp2) (dps_S [(mkH ns r).g, (mkH ns r).t]), (strs_sh n2).1, (strs_sh n2).1, false, by rw [strs_eqv]; simp, iteF ?_⟩
    refine ⟨_, rfl, u, CH, du, _, _, rfl, k16, RH.cl, RH.nC, fh_c _ _ _ _, _, rfl, b, _, _, _, rfl, rfl, SqT.of hrb6, at2, pc, r.c, rfl, sc.same s46, by omega, true, rfl, iteF ?_⟩
    refine ⟨_, rfl, u, CH, du, _, _, rfl, k16, RH.cl, RH.nD, fh_d _ _ _ _, _, rfl, b, _, _, _, rfl, rfl, SqT.of hrb6, at3, pd, r.d, rfl, sd.same s46, by omega, true, rfl, iteF ⟨_, _, rfl, s34.trans s46⟩⟩
  · rintro σ H3 ⟨z3, z4, rfl, s3⟩
    refine ⟨_, rfl, a, CS, dx, _, _, rfl, s3 _ _ h1, R.cl, R.nN, fs_n _ _ _, _, rfl, nm, _, rfl, .inl (SqL.of (s3 _ _ hnm)), _, rfl, ns.length, rw, rs, ?_, n6, rwl.same s3, ok, l60, fun d H4 s4 nd4 hd4 => ?_⟩
    · rw [List.length_map]; rfl
    rw [nets_line nd ok] at h6
    have s34 := s3.trans s4
    exact ⟨pn, d, nas, lineF ns.length rs, rfl, s34 _ _ h5, h6.mono fun x y z => z.same s34, hd4, line_sm ok l60, by rw [line_len]; exact n6, fun H5 s5 => q H5 (s34.trans s5)⟩
end
end K5

/-! k05: _law_back_right. -/
namespace K5
open PySem PySem.Spec PyProof.Rows L2 LamX K1 K18

/-! ### rows picked -/
def pickR (rs : List Row) (ks : List Nat) : List Row := ks.filterMap fun k => rs[k]?
theorem pickR_more {rs : List Row} {ks : List Nat} {k : Nat} (h : k < rs.length) : pickR rs (ks ++ [k]) = pickR rs ks ++ [rs[k]] := by
  unfold pickR
  rw [List.filterMap_append, List.filterMap_cons, List.getElem?_eq_getElem h]; rfl
theorem pickR_len (rs : List Row) (ks : List Nat) : (pickR rs ks).length ≤ ks.length := List.length_filterMap_le _ _
theorem pickR_ok {m : Nat} {rs : List Row} {ks : List Nat} (ok : ∀ r ∈ rs, RwOk m r) : ∀ r ∈ pickR rs ks, RwOk m r := fun r hr => by
  obtain ⟨i, _, e⟩ := List.mem_filterMap.mp hr
  exact ok r (List.mem_of_getElem? e)
theorem pickL_map (ns : List Str) (rs : List Row) (ks : List Nat) : pickL (rs.map (mkH ns)) ks = (pickR rs ks).map (mkH ns) := by
  unfold pickL pickR
  rw [List.map_filterMap]
  congr 1
  funext k
  rw [List.getElem?_map]
theorem effs_line {ns : List Str} (nd : ns.Nodup) {rs : List Row} (ok : ∀ r ∈ rs, RwOk ns.length r) {ks : List Nat} (lt : ∀ k ∈ ks, k < rs.length) : ns.map (effs (rs.map (mkH ns)) ks) = lineF ns.length (pickR rs ks) := by
  refine List.ext_getElem? fun j => ?_
  unfold lineF
  rw [List.getElem?_map, List.getElem?_map]
  by_cases hj : j < ns.length
  · rw [getD_at hj, List.getElem?_range hj, Option.map_some, Option.map_some]
    congr 1
    unfold effs
    induction ks with
    | nil => rfl
    | cons k ks ih =>
      have hk := lt k List.mem_cons_self
      rw [List.map_cons, List.sum_cons, ih fun x hx => lt x (List.mem_cons_of_mem _ hx)]
      unfold pickR
      rw [List.filterMap_cons, List.getElem?_map, List.getElem?_eq_getElem hk]
      rw [List.map_cons, List.sum_cons, ← eff_row nd (ok _ (List.getElem_mem hk)) hj]
      rfl
  · rw [List.getElem?_eq_none (by omega), List.getElem?_eq_none (by rw [List.length_range]; omega)]; rfl
theorem effR_back {m j : Nat} {r : Row} (k : RwOk m r) : effR j r.back = -effR j r := by
  unfold effR Row.back
  have := k.ne
  by_cases e1 : j = r.g
  · have e2 : ¬ j = r.t := fun z => this (e1.symm.trans z)
    rw [if_pos e1, if_neg e2, if_pos e1, Int.neg_neg]
  · rw [if_neg e1]
    by_cases e2 : j = r.t
    · rw [if_pos e2, if_neg e1, if_pos e2]
    · rw [if_neg e2, if_neg e1, if_neg e2]; rfl
theorem line_back {m : Nat} : ∀ {rs : List Row}, (∀ r ∈ rs, RwOk m r) → ∀ j, ((rs.map Row.back).map (effR j)).sum = -(rs.map (effR j)).sum
  | [], _, _ => rfl
  | r :: rs, k, j => by
    rw [List.map_cons, List.map_cons, List.map_cons, List.sum_cons, List.sum_cons, line_back (fun x hx => k x (List.mem_cons_of_mem _ hx)) j, effR_back (k r List.mem_cons_self)]
    omega
theorem lineF_back {m : Nat} {rs : List Row} (k : ∀ r ∈ rs, RwOk m r) : lineF m (rs.map Row.back) = (lineF m rs).map fun z => -z := by
  unfold lineF
  rw [List.map_map]
  exact List.map_congr_left fun j _ => line_back k j
theorem pickR_back (rs : List Row) (ks : List Nat) : pickR (rs.map Row.back) ks = (pickR rs ks).map Row.back := by
  unfold pickR
  rw [List.map_filterMap]
  congr 1
  funext k
  rw [List.getElem?_map]
theorem neg_sm {zs : List Int} (h : LineSm zs) : LineSm (zs.map fun z => -z) := fun z hz => by
  obtain ⟨y, hy, rfl⟩ := List.mem_map.mp hz
  have := h y hy
  omega
theorem Keep.hands {C CH : Addr} {H H' : Hp} {p c : Addr} {n : Nat} {as : List Addr} {hs : List Hnd} (pn : Pen H p c n) (k : Keep p H H') (h : Hands C CH H as hs) : Hands C CH H' as hs := h.mono fun _ _ z => z.keepP pn k
theorem SwAt.keepP {C CH CS : Addr} {H H' : Hp} {a p c : Addr} {n : Nat} {ns : List Str} {hs : List Hnd} (pn : Pen H p c n) (k : Keep p H H') (h : SwAt C CH CS H a ns hs) : SwAt C CH CS H' a ns hs := by
  obtain ⟨dx, ps, ph, pq, as, nas, h1, h2, h3, h4, h5, h6⟩ := h
  obtain ⟨cs, t, r, x, _⟩ := id pn
  exact ⟨dx, ps, ph, pq, as, nas, k _ _ (ne_of h1 x (fun z => nomatch z)) h1, k _ _ (ne_of h2 x (fun z => nomatch z)) h2, k _ _ (ne_of h3 x (fun z => nomatch z)) h3, Keep.hands pn k h4, k _ _ (ne_of h5 x (fun z => nomatch z)) h5, h6.mono fun _ _ z => Six.keepP pn k z⟩
structure NeO (P : Program) (w : World) (K : PySem.W.Frag) (mg : Str → Option Value) (base : Heap) (C : Addr) (k : Nat) (sp : Sp) : Prop where
  e : EqO P w K mg base C k sp
  ne : PySem.W.findIn K (.ref C) "__ne__" = some (some (.builtin "object.__ne__"))
  ob : PySem.W.subIn K (.ref C) (.type "object") = some true
def spBackR (C CH CS : Addr) : Sp := fun vs H Q _ => ∃ (p c a nm rw : Addr) (ns : List Str) (rs : List Row) (n : Nat), vs = [.ref p, .ref a, .ref nm, .ref rw] ∧ Pen H p c n ∧ n + 60 < 100000 ∧ nm ≠ p ∧ rw ≠ p ∧ SwAt C CH CS H a ns (rs.map (mkH ns)) ∧ H nm = some (.lst (ns.map V.str)) ∧ 2 ≤ ns.length ∧ ns.length ≤ 6 ∧ ns.Nodup ∧ (∀ n ∈ ns, Nm n) ∧
  RwL H rw rs ∧ (∀ r ∈ rs, RwOk ns.length r) ∧ rs.length ≤ 6 ∧ ∀ H', Keep p H H' → Pen H' p c (n + 20) → Q (.bl true) H'
abbrev nBackR : List Str := ["_law_pen_here", "_law_swap", "_law_names_here", "_law_rows_here", "_law_back_here", "_law_hand", "_law_turned", "_law_turn", "_law_done", "_law_line_here", "_law_number", "_law_one"]
section
variable {P : Program} {w : World} {K : PySem.W.Frag} {mg : Str → Option Value} {base : Heap} {f C CH CS CW : Addr} {fd : FuncData}
abbrev HasBack (P : Program) (w : World) (K : PySem.W.Frag) (mg : Str → Option Value) (base : Heap) (C CH CS CW : Addr) : Prop := Has P w K mg base (L2.CX P w) 12 "handed_back" ["swap"] (spBack K C CH CS CW)
abbrev HasHas (P : Program) (w : World) (K : PySem.W.Frag) (mg : Str → Option Value) (base : Heap) (C CH CS : Addr) : Prop := Has P w K mg base CX0 4 "_law_has" ["_law_swap", "_law_names_here", "_law_rows_here"] (spHas C CH CS)
abbrev HasLBack (P : Program) (w : World) (K : PySem.W.Frag) (mg : Str → Option Value) (base : Heap) : Prop := Has P w K mg base CX0 1 "_law_back" ["_law_rows_here"] spLBack
abbrev HasSums (P : Program) (w : World) (K : PySem.W.Frag) (mg : Str → Option Value) (base : Heap) (C CH CS : Addr) : Prop := Has P w K mg base CX0 8 "sums" ["swap", "done"] (spSums C CH CS)
theorem ne_sw (R : SwapF K CS) (NS : NeO P w K mg base CS 4 (spSEq C CH CS)) {H : Hp} {a b : Addr} {ns : List Str} {hs : List Hnd} {Q : VK} {E : XK} (ha : SwAt C CH CS H a ns hs) (hb : SwAt C CH CS H b ns hs) (nm : ∀ n ∈ ns, Nm n) (q : ∀ H', Same H H' → Q (.bl false) H') : rNeO K CS (spSEq C CH CS) E (.ref a) (.ref b) H Q := by
  obtain ⟨dx, ps, ph, pn, as, nas, h1, _⟩ := id ha
  obtain ⟨dy, qs, qh, qn, bs, nbs, k1, _⟩ := id hb
  refine ⟨a, dx, _, _, rfl, h1, R.ty k1, NS.e.nf, a, b, ns, hs, ns, hs, rfl, ha, hb, nm, nm, fun H' s' => ⟨true, by simp, q H' s'⟩⟩
theorem ne_hand (R : HandF K CH) (NH : NeO P w K mg base CH 2 (spHEq C CH)) {H : Hp} {a b : Addr} {h : Hnd} {Q : VK} {E : XK} (ha : HandAt C CH H a h) (hb : HandAt C CH H b h) (q : Q (.bl false) H) : rNeO K CH (spHEq C CH) E (.ref a) (.ref b) H Q := by
  obtain ⟨dx, pc, pd, h1, _⟩ := id ha
  obtain ⟨dy, qc, qd, k1, _⟩ := id hb
  refine ⟨a, dx, _, _, rfl, h1, R.ty k1, NH.e.nf, a, b, h, h, rfl, ha, hb, true, by simp, q⟩
theorem scBackR : FnScope nBackR ["_law_pen_here", "_law_swap", "_law_names_here", "_law_rows_here"] (defScope sBackRight) := ⟨rfl, rfl, rfl, by decide +kernel, rfl, by decide +kernel, by decide +kernel⟩
theorem ok_backR (G : Glob mg) (R : SwapF K CS) (RH : HandF K CH) (RM : RetM P w K mg base C CH) (ON : Own P w K mg base CS CX0 11 "__neg__" ["self"] (spSNeg C CH CS)) (NS : NeO P w K mg base CS 4 (spSEq C CH CS)) (NH : NeO P w K mg base CH 2 (spHEq C CH))
    (HT : HasDraw P w K mg base) (HB : HasBack P w K mg base C CH CS CW) (HH : HasHas P w K mg base C CH CS) (HLB : HasLBack P w K mg base) (HL : HasIsLine P w K mg base C) (HN : HasLine P w K mg base) (HS : HasSums P w K mg base C CH CS)
    (F : DefAt K "_law_back_right" "_law_back_right" sBackRight f fd) : FnOk P w K mg base CX0 13 f fd ["_law_pen_here", "_law_swap", "_law_names_here", "_law_rows_here"] (spBackR C CH CS) := by
  obtain ⟨fb, fdb, mB, kB, bB, GB⟩ := HB.h
  obtain ⟨fh, fdh, mH, kH, bH, GH⟩ := HH.h
  obtain ⟨fk, fdk, mLB, kLB, bLB, GLB⟩ := HLB.h
  obtain ⟨fl, fdl, mL, kL, bL, GL⟩ := HL.h
  obtain ⟨fn, fdn, mN, kN, bN, GN⟩ := HN.h
  obtain ⟨fs, fds, mS, kS, bS, GS⟩ := HS.h
  obtain ⟨ft, fdt, mT, kT, bT, GT⟩ := HT.h
  obtain ⟨fr, fdr, Mr, bR, GR⟩ := RM.h
  obtain ⟨fg, fdg, MG, bG, GG⟩ := ON.h
  obtain ⟨fe, fde, ME, bE, GE⟩ := NS.e.o.h
  obtain ⟨fq, fdq, MQ, bQ, GQ⟩ := NH.e.o.h
  refine okN F scBackR (fun vs H Q E ⟨p, c, a, nm, rw, ns, rs, n, e, _⟩ => by rw [e]; rfl) (fun cdv A outer s H vs Q E hr ⟨p, c, a, nm, rw, ns, rs, n, e, pn, hn, np, rp, ha, hnm, n2, n6, nd, nmo, rwl, ok, l6, q⟩ => ?_)
  subst e
  have r11 := hr.mono (show 11 ≤ 12 by decide)
  have r9 := hr.mono (show 9 ≤ 12 by decide)
  have r8 := hr.mono (show 8 ≤ 12 by decide)
  have r5 := hr.mono (show 5 ≤ 12 by decide)
  have r4 := hr.mono (show 4 ≤ 12 by decide)
  have r3 := hr.mono (show 3 ≤ 12 by decide)
  have r2 := hr.mono (show 2 ≤ 12 by decide)
  have r1 := hr.mono (show 1 ≤ 12 by decide)
  refine ⟨_, pss_cons (ps_set (i := 4) scBackR.nd rfl (Or.inl rfl) (pe_call (E := E0) GB hr rfl mB kB bB .nil passL (pa_cons (pv 1) pa_nil)))
    (pss_cons (ps_if (PW.pt (pw_or (pt_not (pt_val (pe_call GH r4 rfl mH kH bH .nil pass0 (pa_cons (pv 4) (pa_cons (pv 2) (pa_cons (pe_call GLB r1 rfl mLB kLB bLB .nil pass0 (pa_cons (pv 3) pa_nil)) pa_nil))))))
      (pw_or (pt_cmpR (op_neO ME NS.ne NS.ob GE r5 bE pass0) (pe_un (un_own MG GG r11 bG pass0) (pv 1)) (pv 4) (nomark _))
      (pw_or (pt_cmpR (op_neO ME NS.ne NS.ob GE r5 bE pass0) (pe_un (un_own MG GG r11 bG pass0) (pv 4)) (pv 1) (nomark _))
      (pw_or1 (pt_cmpR (op_neO ME NS.ne NS.ob GE r5 bE pass0) (pe_call (E := E0) GB hr rfl mB kB bB .nil passL (pa_cons (pv 4) pa_nil)) (pv 1) (nomark _))))))) pss_dead pss_nil)
    (pss_cons (ps_for PassesOwn.never rfl (RZ.pi_zipA (by rfl) G.zip (pa_cons (pe_fld (pv 1) rfl) (pa_cons (pe_fld (pv 4) rfl) pa_nil))) (pg_tup (by rfl) (pgs_cons (pg_name (i := 5) scBackR.nd rfl (Or.inl rfl)) (pgs_cons (pg_name (i := 6) scBackR.nd rfl (Or.inl rfl)) pgs_nil)))
      (pss_one (ps_if (PW.pt (pw_or (pt_cmpR (op_neO MQ NH.ne NH.ob GQ r3 bQ pass0) (pe_meth0 (pv 5) RH.cl Mr GR r9 bR .nil pass0) (pv 6) (nomark _))
        (pw_or1 (pt_cmpR (op_neO MQ NH.ne NH.ob GQ r3 bQ pass0) (pe_meth0 (pv 6) RH.cl Mr GR r9 bR .nil pass0) (pv 5) (nomark _))))) pss_dead pss_nil)))
    (pss_cons (ps_for PassesOwn.never rfl (pi_range1 (by rfl) G.range (pa_cons pe_int pa_nil)) (pg_name (i := 7) scBackR.nd rfl (Or.inl rfl))
      (pss_cons (ps_setLc (i := 8) (own := [("_law_number", 10)]) (g := gName 10) rfl scBackR.nd rfl rfl (by rfl) (pi_range1 (by rfl) G.range (pa_cons (pe_callB (r := rLenA K) (call_lenA rfl) (by rfl) G.len PySem.boot_len (pa_cons (pv 3) pa_nil)) pa_nil)) (blkOk_by (N := nBackR) (sc := defScope sBackRight) (by decide +kernel))
          (fun _ _ _ _ _ => pg_name (i := 10) scBackR.nd rfl (Or.inl rfl)) (fun _ _ _ _ _ => pts_one (pt_cmpR op_eq (pe_call GT r1 rfl mT kT bT .nil pass0 (pa_cons (pv 0) (pa_cons pe_int pa_nil))) pe_int (by rfl))) (fun _ _ _ _ _ => pv 10))
      (pss_cons (ps_set (i := 9) scBackR.nd rfl (Or.inl rfl) (pe_call GN r1 rfl mN kN bN .nil pass0 (pa_cons (pe_callB (r := rLenA K) (call_lenA rfl) (by rfl) G.len PySem.boot_len (pa_cons (pv 2) pa_nil)) (pa_cons
          (pe_lc (own := [("_law_number", 10)]) (g := gName 10) (tt := tYes) rfl scBackR.nd (pi_list (pv 8)) (blkOk_by (N := nBackR) (sc := defScope sBackRight) (by decide +kernel))
            (fun _ _ _ _ _ => pg_name (i := 10) scBackR.nd rfl (Or.inl rfl)) (fun _ _ _ _ _ => pts_nil) (fun _ _ _ _ _ => pe_ix (r := rIxL K) ix_list (pv 3) (pv 10) (fun _ _ => rfl))) pa_nil))))
      (pss_one (ps_if (PW.pt (pw_or (pt_not (pt_val (pe_call GL r2 rfl mL kL bL .nil pass0 (pa_cons (pe_call GS r8 rfl mS kS bS .nil pass0 (pa_cons (pv 1) (pa_cons (pv 8) pa_nil))) (pa_cons (pv 9) pa_nil)))))
        (pw_or1 (pt_not (pt_val (pe_call GL r2 rfl mL kL bL .nil pass0 (pa_cons (pe_call GS r8 rfl mS kS bS .nil pass0 (pa_cons (pv 4) (pa_cons (pe_revL (pv 8)) pa_nil))) (pa_cons
          (pe_lc (own := [("_law_one", 11)]) (g := gName 11) (tt := tYes) rfl scBackR.nd (pi_list (pv 9)) (blkOk_by (N := nBackR) (sc := defScope sBackRight) (by decide +kernel))
            (fun _ _ _ _ _ => pg_name (i := 11) scBackR.nd rfl (Or.inl rfl)) (fun _ _ _ _ _ => pts_nil) (fun _ _ _ _ _ => pe_un un_neg (pv 11))) pa_nil)))))))) pss_dead pss_nil)))))
    (pss_one (ps_ret pe_bl))))), ?_⟩
  have sz : sizeLine = 16777216 := sizeLine_eq
  have sok := sw_ok n2 n6 nd nmo ok
  have sokb := sok.back
  have l40 : (rs.map (mkH ns)).length ≤ 40 := by rw [List.length_map]; omega
  have l40b : ((rs.map (mkH ns)).map Hnd.back).length ≤ 40 := by rw [List.length_map]; exact l40
  have bb : ((rs.map (mkH ns)).map Hnd.back).map Hnd.back = rs.map (mkH ns) := by rw [List.map_map]; exact List.map_id' _
  obtain ⟨dx, ps, ph, pq, as, nas, h1, h2, h3, h4, h5, h6⟩ := id ha
  refine ⟨_, rfl, _, rfl, .inl ⟨a, ns, _, rfl, ha, sok, l40, fun b H1 s1 nb swb => ?_⟩⟩
  have swb' := swb
  rw [back_mk] at swb'
  refine ⟨_, rfl, _, rfl, _, rfl, rw, rs, rfl, rwl.same s1, by omega, fun d H2 s2 nd2 rd2 => ?_⟩
  have s12 := s1.trans s2
  refine ⟨b, nm, d, ns, rs.map Row.back, rfl, swb'.same s2, s12 _ _ hnm, n6, nd, nmo, rd2, ?_, by rw [List.length_map]; omega, fun H3 s3 => ⟨true, rfl, iteF ?_⟩⟩
  · intro r hr
    obtain ⟨r0, h0, rfl⟩ := List.mem_map.mp hr
    exact (ok r0 h0).back
  have s13 := s12.trans s3
  have s23 := s2.trans s3
  refine ⟨_, rfl, a, dx, _, rfl, s13 _ _ h1, a, ns, _, rfl, ha.same s13, sok, l40, fun m H4 s4 nm4 swm => ⟨_, rfl, ?_⟩⟩
  have s14 := s13.trans s4
  have s24 := s23.trans s4
  refine ne_sw R NS swm (swb.same s24) nmo fun H5 s5 => ⟨false, rfl, iteF ?_⟩
  have s15 := s14.trans s5
  have swb5 := swb.same (s24.trans s5)
  obtain ⟨dy, qs, qh, qn, bs, nbs, k1, k2, k3, k4, k5, k6⟩ := id swb5
  refine ⟨_, rfl, b, dy, _, rfl, k1, b, ns, _, rfl, swb5, sokb, l40b, fun m2 H6 s6 nm6 swm2 => ⟨_, rfl, ?_⟩⟩
  rw [bb] at swm2
  refine ne_sw R NS swm2 (ha.same (s15.trans s6)) nmo fun H7 s7 => ⟨false, rfl, iteF ?_⟩
  have s17 := (s15.trans s6).trans s7
  have s57 := s6.trans s7
  refine ⟨_, rfl, _, rfl, .inl ⟨b, ns, _, rfl, swb5.same s57, sokb, l40b, fun m3 H8 s8 nm8 swm3 => ⟨_, rfl, ?_⟩⟩⟩
  rw [bb] at swm3
  refine ne_sw R NS swm3 (ha.same (s17.trans s8)) nmo fun H9 s9 => ⟨false, rfl, iteF ?_⟩
  have s19 := (s17.trans s8).trans s9
  have s59 := (s57.trans s8).trans s9
  have h19 := s19 _ _ h1
  have k19 := s59 _ _ k1
  refine ⟨_, rfl, a, CS, dx, _, _, rfl, h19, R.cl, R.nH, fs_h _ _ _, _, rfl, b, CS, dy, _, _, rfl, k19, R.cl, R.nH, fs_h _ _ _, ph, qh, as.map V.ref, bs.map V.ref, rfl, .inr ⟨SqT.of (s19 _ _ h3), SqT.of (s59 _ _ k3), ?_⟩⟩
  have la : as.length = bs.length := by rw [h4.1, k4.1]; simp
  refine RZ.for_zipT (by rw [List.length_map, List.length_map, la]) (fun i σ H3 => ∃ z5 z6 : Option V, σ = [some (V.ref p), some (.ref a), some (.ref nm), some (.ref rw), some (.ref b), z5, z6, none, none, none, none, none] ∧ Same H9 H3) ⟨none, none, rfl, Same.refl _⟩
    (fun i σ H3 ⟨z5, z6, e, s3⟩ => ⟨SqT.of (s3 _ _ (s19 _ _ h3)), SqT.of (s3 _ _ (s59 _ _ k3))⟩) ?_ ?_
  · rintro i x y T σ H10 ex ey ⟨z5, z6, rfl, s10⟩ nT
    obtain ⟨u, eu, rfl⟩ := map_at ex
    obtain ⟨v, ev, rfl⟩ := map_at ey
    obtain ⟨h, eh, hu⟩ := h4.get eu
    have hv := k4.2 i v h.back ev (by rw [List.getElem?_map, eh]; rfl)
    have hok := (sok.hk h (List.mem_of_getElem? eh)).1
    have sT := upd_new (o := .tup [.ref u, .ref v]) nT
    have hT : upd H10 T (.tup [.ref u, .ref v]) T = some (.tup [.ref u, .ref v]) := upd_same
    generalize upd H10 T (.tup [.ref u, .ref v]) = H11 at sT hT ⊢
    have s9b := s10.trans sT
    have hu11 := hu.same (s19.trans s9b)
    have hv11 := hv.same (s59.trans s9b)
    obtain ⟨du, uc, ud, u1, _⟩ := id hu11
    obtain ⟨dv, vc, vd, v1, _⟩ := id hv11
    refine ⟨T, _, rfl, SqT.of hT, rfl, _, _, rfl, _, _, rfl, rfl, ?_⟩
    refine ⟨_, rfl, u, du, _, rfl, u1, no_ret _ _ _ _, u, h, rfl, hu11, hok, fun p1 H12 s12' np1 hp1 => ⟨_, rfl, ?_⟩⟩
    refine ne_hand RH NH hp1 (hv11.same s12') ⟨false, rfl, iteF ?_⟩
    refine ⟨_, rfl, v, dv, _, rfl, s12' _ _ v1, no_ret _ _ _ _, v, h.back, rfl, hv11.same s12', hok.back, fun p2 H13 s13' np2 hp2 => ⟨_, rfl, ?_⟩⟩
    refine ne_hand RH NH hp2 ((hu11.same s12').same s13') ⟨false, rfl, iteF ⟨_, _, rfl, (s9b.trans s12').trans s13'⟩⟩
  · rintro σ H3 ⟨z5, z6, rfl, s3⟩
    have k09 : Keep p H H3 := theKeep (s19.trans s3)
    have swb3 := swb5.same (s59.trans s3)
    refine ⟨3, rfl, by omega, by omega, ?_⟩
    refine for_range (lo := 0) (n := 3) (fun i σ H4 => ∃ z5 z6 z7 z8 z9 : Option V, σ = [some (V.ref p), some (.ref a), some (.ref nm), some (.ref rw), some (.ref b), z5, z6, z7, z8, z9, none, none] ∧ Keep p H3 H4 ∧ Pen H4 p c (n + 6 * i)) ⟨_, _, _, _, _, rfl, Keep.refl _ _, pn.same (s19.trans s3)⟩ ?_ ?_
    · rintro i σ H4 hi ⟨z5, z6, z7, z8, z9, rfl, k4', pn4⟩
      obtain ⟨ras, hrw, ral⟩ := id rwl
      have k04 := k09.trans k4'
      have hrw4 := k04 _ _ rp hrw
      have lr := ral.1
      refine ⟨_, rfl, rw, _, rfl, .inl (SqL.of hrw4), _, rfl, by rw [List.length_map]; omega, by rw [List.length_map]; omega, fun D hD => ?_⟩
      have Dp : D ≠ p := (pn4.ne hD).1.symm
      obtain ⟨y1, y2⟩ := pn4.ne hD
      refine lc_range (lo := 0) (n := (((ras.map V.ref).length : Nat) : Int).toNat) (fun j H5 => ∃ ks : List Nat, ks.Pairwise (· < ·) ∧ (∀ k ∈ ks, k < j) ∧ H5 D = some (.lst (kV ks)) ∧ Keep p H4 H5 ∧ Pen H5 p c (n + 6 * i + j))
        ⟨[], .nil, by simp, upd_same, theKeep (upd_new hD), pn4.same (upd_new hD)⟩ ?_ ?_
      · rintro j H5 hj ⟨ks, asc, lt, h5', k5', pn5⟩
        have hj' : j < rs.length := by rw [← lr]; simpa using hj
        refine ⟨rfl, _, rfl, p, c, 2, _, rfl, pn5, by omega, by decide, by decide, fun r H6 r0 r1' k6' pn6 => ⟨rfl, decide (r = 0), by rw [decI], ?_⟩⟩
        have lk := nd_len (asc_nd asc) lt
        have h6' := k6' _ _ Dp h5'
        by_cases er : r = 0
        · rw [decide_eq_true er]
          refine iteT ⟨_, rfl, _, h6', by rw [show (kV ks).length = ks.length from List.length_map _]; omega, ks ++ [j], ?_, ?_, ?_, ?_, (pn6.upd y1 y2).mono (by omega)⟩
          · exact List.pairwise_append.mpr ⟨asc, List.pairwise_singleton _ _, fun x hx y hy => by rw [List.mem_singleton.mp hy]; exact lt x hx⟩
          · intro k hk
            rcases List.mem_append.mp hk with hk | hk
            · have := lt k hk; omega
            · rw [List.mem_singleton.mp hk]; omega
          · rw [upd_same]
            unfold kV
            rw [List.map_append, Int.zero_add]
            rfl
          · intro x o nx e
            rw [upd_ne (ne_of_none e hD)]
            exact k6' _ _ nx (k5' _ _ nx e)
        · rw [decide_eq_false er]
          exact iteF ⟨ks, asc, fun k hk => by have := lt k hk; omega, h6', k5'.trans k6', pn6.mono (by omega)⟩
      rintro H5 ⟨ks, asc, lt, h5', k5', pn5⟩
      have lt' : ∀ k ∈ ks, k < rs.length := fun k hk => by
        have := lt k hk
        rw [List.length_map, lr] at this
        simpa using this
      have pn5' : Pen H5 p c (n + 6 * (i + 1)) := pn5.mono (by rw [List.length_map, lr]; omega)
      have lk := nd_len (asc_nd asc) lt'
      have k05 := k04.trans k5'
      have hrw5 := k05 _ _ rp hrw
      have hnm5 := k05 _ _ np hnm
      refine ⟨_, rfl, nm, _, rfl, .inl (SqL.of hnm5), _, rfl, D, rfl, ⟨_, SqL.of h5'⟩, fun D2 hD2 => ?_⟩
      refine lc_it (walk_list (xs := kV ks)) (fun j H6 => Same H5 H6 ∧ RwL H6 D2 (pickR rs (ks.take j))) ⟨upd_new hD2, [], upd_same, .nil⟩ (fun j H6 _ z => SqL.of (z.1 _ _ h5')) ?_ ?_
      · rintro j x H6 H7 hj ⟨s6', as2, hd2, al2⟩ ⟨rfl, ex⟩
        obtain ⟨k, ek, rfl⟩ := map_at ex
        have hk := lt' k (List.mem_of_getElem? ek)
        have lj := (List.getElem?_eq_some_iff.mp ek).1
        obtain ⟨ra, era, hra⟩ := ral.getR (List.getElem?_eq_getElem hk)
        obtain ⟨pcs, pt, pr, hpp, _⟩ := id pn
        have hra7 := s6' _ _ (k05 _ _ (ne_of hra hpp (fun z => nomatch z)) hra)
        refine ⟨rfl, yes_of ⟨_, rfl, _, rfl, rw, _, _, _, rfl, rfl, SqL.of (s6' _ _ hrw5), atI_nat (v := .ref ra) (by rw [List.getElem?_map, era]; rfl), _, hd2, ?_, same_upd hD2 s6', as2 ++ [ra], by rw [upd_same, List.map_append]; rfl, ?_⟩⟩
        · have := pickR_len rs (ks.take j)
          rw [List.length_take] at this
          rw [List.length_map, al2.1]; omega
        · rw [take_more ek, pickR_more hk]
          have up : ∀ {u : Addr} {v : Row}, RwAt H7 u v → ∀ o, RwAt (upd H7 D2 o) u v := fun z o => by
            show upd _ _ _ _ = _
            rw [upd_ne (ne_of z hd2 (fun z => nomatch z))]; exact z
          exact All2.snoc (al2.mono fun u v z => up z _) (up hra7 _)
      rintro H6 ⟨s6', rd6⟩
      rw [show (kV ks).length = ks.length from List.length_map _, List.take_length] at rd6
      have lp := pickR_len rs ks
      refine ⟨ns.length, D2, pickR rs ks, ?_, n6, rd6, pickR_ok ok, by omega, fun d7 H7 s7' nd7 hd7 => ?_⟩
      · rw [List.length_map]; rfl
      have s57' := s6'.trans s7'
      have k07 : Keep p H H7 := k05.trans (theKeep s57')
      have pn7 := pn5'.same s57'
      have swa7 := ha.keepP pn k07
      have swb7 : SwAt C CH CS H7 b ns ((rs.map (mkH ns)).map Hnd.back) := swb3.keepP (pn.same (s19.trans s3)) (k4'.trans (k5'.trans (theKeep s57')))
      have okL : ∀ h ∈ rs.map (mkH ns), HnOk h := fun h hh => (sok.hk h hh).1
      have okB : ∀ h ∈ (rs.map (mkH ns)).map Hnd.back, HnOk h := fun h hh => (sokb.hk h hh).1
      have sm := line_sm (pickR_ok (ks := ks) ok) (by omega)
      refine ⟨_, rfl, _, rfl, a, D, ns, _, ks, ks, rfl, swa7, okL, by omega, n6, .inl (s57' _ _ h5'), List.Perm.refl _, asc, by rw [List.length_map]; exact lt', fun t8 qs8 H8 s8' ht8 al8 => ?_⟩
      rw [effs_line nd ok lt'] at al8
      have hd8 := s8' _ _ hd7
      refine ⟨_, rfl, t8, d7, qs8, _, rfl, ht8, al8, hd8, sm, by rw [line_len]; exact n6, fun H9' s9' => ⟨true, rfl, iteF ?_⟩⟩
      have s79 := s8'.trans s9'
      have hD9 := (s57'.trans s79) _ _ h5'
      refine ⟨_, rfl, _, rfl, D, _, rfl, SqL.of hD9, fun D3 nD3 => ?_⟩
      have s10' := upd_new (o := .lst (kV ks).reverse) nD3
      have h10 : upd H9' D3 (.lst (kV ks).reverse) D3 = some (.lst (kV ks.reverse)) := by rw [upd_same]; unfold kV; rw [List.map_reverse]
      generalize upd H9' D3 (.lst (kV ks).reverse) = H10 at s10' h10 ⊢
      have s710 := s79.trans s10'
      refine ⟨b, D3, ns, _, ks.reverse, ks, rfl, swb7.same s710, okB, by omega, n6, .inl h10, List.reverse_perm _, asc, by rw [List.length_map, List.length_map]; exact lt', fun t11 qs11 H11 s11' ht11 al11 => ?_⟩
      have okb : ∀ r ∈ rs.map Row.back, RwOk ns.length r := fun r hr => by
        obtain ⟨r0, h0, rfl⟩ := List.mem_map.mp hr
        exact (ok r0 h0).back
      rw [back_mk, effs_line nd okb (by rw [List.length_map]; exact lt'), pickR_back, lineF_back (pickR_ok ok)] at al11
      have s711 := s710.trans s11'
      have hd11 := s711 _ _ hd7
      refine ⟨_, rfl, d7, rfl, ⟨_, SqL.of hd11⟩, fun D4 hD4 => ?_⟩
      refine lc_it (walk_list (xs := (lineF ns.length (pickR rs ks)).map V.int)) (fun j H12 => Same H11 H12 ∧ H12 D4 = some (.lst ((((lineF ns.length (pickR rs ks)).take j).map fun z => -z).map V.int))) ⟨upd_new hD4, upd_same⟩ (fun j H12 _ z => SqL.of (z.1 _ _ hd11)) ?_ ?_
      · rintro j x H12 H13 hj ⟨s12', h12⟩ ⟨rfl, ex⟩
        obtain ⟨z, ez, rfl⟩ := map_at ex
        have lj := (List.getElem?_eq_some_iff.mp ez).1
        rw [line_len] at lj
        refine ⟨rfl, yes_of ⟨_, rfl, z, rfl, _, h12, by rw [List.length_map, List.length_map, List.length_take]; omega, same_upd hD4 s12', ?_⟩⟩
        rw [upd_same, take_more ez, List.map_append, List.map_append]
        rfl
      rintro H12 ⟨s12', h12⟩
      rw [List.length_map, List.take_length] at h12
      refine ⟨t11, D4, qs11, _, rfl, s12' _ _ ht11, al11.mono fun x y z => z.same s12', h12, neg_sm sm, by rw [List.length_map, line_len]; exact n6, fun H13 s13' => ⟨true, rfl, iteF ?_⟩⟩
      have k713 : Same H7 H13 := (s711.trans s12').trans s13'
      exact ⟨_, _, _, _, _, rfl, k4'.trans (k5'.trans (theKeep (s57'.trans k713))), pn7.same k713⟩
    · rintro σ H4 ⟨z5, z6, z7, z8, z9, rfl, k4', pn4⟩
      exact q H4 (k09.trans k4') (pn4.mono (by omega))
end
end K5

/-! k05: _law_portion_right. -/
namespace K5
open PySem PySem.Spec PyProof.Rows L2 LamX K1 K18

def spPorR (C CH CS : Addr) : Sp := fun vs H Q _ => ∃ (p c a nm rw : Addr) (ns : List Str) (rs : List Row) (n : Nat), vs = [.ref p, .ref a, .ref nm, .ref rw] ∧ Pen H p c n ∧ n + 60 < 100000 ∧ nm ≠ p ∧ rw ≠ p ∧ SwAt C CH CS H a ns (rs.map (mkH ns)) ∧ H nm = some (.lst (ns.map V.str)) ∧ 2 ≤ ns.length ∧ ns.length ≤ 6 ∧ ns.Nodup ∧ (∀ n ∈ ns, Nm n) ∧
  RwL H rw rs ∧ (∀ r ∈ rs, RwOk ns.length r) ∧ rs.length ≤ 6 ∧ ∀ H', Keep p H H' → Pen H' p c (n + 20) → Q (.bl true) H'
abbrev nPorR : List Str := ["_law_pen_here", "_law_swap", "_law_names_here", "_law_rows_here", "_law_turn", "_law_some", "_law_told", "_law_number"]
section
variable {P : Program} {w : World} {K : PySem.W.Frag} {mg : Str → Option Value} {base : Heap} {f C CH CS CW CD CI CT CM : Addr} {fd : FuncData}
abbrev HasPor (P : Program) (w : World) (K : PySem.W.Frag) (mg : Str → Option Value) (base : Heap) (C CH CS CW CD CI CT : Addr) : Prop := Has P w K mg base (L2.CX P w) 10 "portion" ["swap", "done"] (spPortion K C CH CS CW CD CI CT)
theorem eq_sw (R : SwapF K CS) (OE : EqO P w K mg base CS 4 (spSEq C CH CS)) {H : Hp} {a b : Addr} {ns : List Str} {hs : List Hnd} {Q : VK} {E : XK} (ha : SwAt C CH CS H a ns hs) (hb : SwAt C CH CS H b ns hs) (nm : ∀ n ∈ ns, Nm n) (q : ∀ H', Same H H' → Q (.bl true) H') : rEqO K CS (spSEq C CH CS) E (.ref a) (.ref b) H Q := by
  obtain ⟨dx, ps, ph, pn, as, nas, h1, _⟩ := id ha
  obtain ⟨dy, qs, qh, qn, bs, nbs, k1, _⟩ := id hb
  refine ⟨a, dx, _, _, rfl, h1, R.ty k1, OE.nf, a, b, ns, hs, ns, hs, rfl, ha, hb, nm, nm, fun H' s' => ?_⟩
  have := q H' s'
  simpa using this
theorem pickR_all : ∀ rs : List Row, pickR rs (List.range rs.length) = rs
  | [] => rfl
  | x :: l => by
    have ih := pickR_all l
    unfold pickR at ih ⊢
    rw [List.length_cons, List.range_succ_eq_map, List.filterMap_cons, List.filterMap_map]
    show x :: List.filterMap (fun k => l[k]?) (List.range l.length) = x :: l
    rw [ih]
theorem scPorR : FnScope nPorR ["_law_pen_here", "_law_swap", "_law_names_here", "_law_rows_here"] (defScope sPortionRight) := ⟨rfl, rfl, rfl, by decide +kernel, rfl, by decide +kernel, by decide +kernel⟩
theorem ok_porR (G : Glob mg) (R : SwapF K CS) (M : MkS P w K mg base C CH CS CM) (NS : NeO P w K mg base CS 4 (spSEq C CH CS)) (HT : HasDraw P w K mg base) (HP : HasPor P w K mg base C CH CS CW CD CI CT) (HH : HasHas P w K mg base C CH CS)
    (F : DefAt K "_law_portion_right" "_law_portion_right" sPortionRight f fd) : FnOk P w K mg base CX0 11 f fd ["_law_pen_here", "_law_swap", "_law_names_here", "_law_rows_here"] (spPorR C CH CS) := by
  obtain ⟨fp, fdp, mP, kP, bP, GP⟩ := HP.h
  obtain ⟨fh, fdh, mH, kH, bH, GH⟩ := HH.h
  obtain ⟨ft, fdt, mT, kT, bT, GT⟩ := HT.h
  obtain ⟨fm, fdm, Mm, GM, bM⟩ := M.m
  obtain ⟨fe, fde, ME, bE, GE⟩ := NS.e.o.h
  refine okN F scPorR (fun vs H Q E ⟨p, c, a, nm, rw, ns, rs, n, e, _⟩ => by rw [e]; rfl) (fun cdv A outer s H vs Q E hr ⟨p, c, a, nm, rw, ns, rs, n, e, pn, hn, np, rp, ha, hnm, n2, n6, nd, nmo, rwl, ok, l6, q⟩ => ?_)
  subst e
  have r9 := hr.mono (show 9 ≤ 10 by decide)
  have r4 := hr.mono (show 4 ≤ 10 by decide)
  have r1 := hr.mono (show 1 ≤ 10 by decide)
  refine ⟨_, pss_cons (ps_for PassesOwn.never rfl (pi_range1 (by rfl) G.range (pa_cons pe_int pa_nil)) (pg_name (i := 4) scPorR.nd rfl (Or.inl rfl))
      (pss_cons (ps_setLc (i := 5) (own := [("_law_number", 7)]) (g := gName 7) rfl scPorR.nd rfl rfl (by rfl) (pi_range1 (by rfl) G.range (pa_cons (pe_callB (r := rLenA K) (call_lenA rfl) (by rfl) G.len PySem.boot_len (pa_cons (pv 3) pa_nil)) pa_nil)) (blkOk_by (N := nPorR) (sc := defScope sPortionRight) (by decide +kernel))
          (fun _ _ _ _ _ => pg_name (i := 7) scPorR.nd rfl (Or.inl rfl)) (fun _ _ _ _ _ => pts_one (pt_cmpR op_eq (pe_call GT r1 rfl mT kT bT .nil pass0 (pa_cons (pv 0) (pa_cons pe_int pa_nil))) pe_int (by rfl))) (fun _ _ _ _ _ => pv 7))
      (pss_cons (ps_set (i := 6) scPorR.nd rfl (Or.inl rfl) (pe_ifExp (pt_cmpR op_eq (pe_call GT r1 rfl mT kT bT .nil pass0 (pa_cons (pv 0) (pa_cons pe_int pa_nil))) pe_int (nomark _)) (pe_revL (pv 5)) (pe_callTy (r := rTupK K) (call_tupK rfl) (by rfl) G.tup (by decide +kernel) (pa_cons (pv 5) pa_nil))))
      (pss_one (ps_if (pt_not (pt_val (pe_call GH r4 rfl mH kH bH .nil pass0 (pa_cons (pe_call (E := E0) GP hr rfl mP kP bP .nil passL (pa_cons (pv 1) (pa_cons (pv 6) pa_nil))) (pa_cons (pv 2) (pa_cons
          (pe_lc (own := [("_law_number", 7)]) (g := gName 7) (tt := tYes) rfl scPorR.nd (pi_list (pv 5)) (blkOk_by (N := nPorR) (sc := defScope sPortionRight) (by decide +kernel))
            (fun _ _ _ _ _ => pg_name (i := 7) scPorR.nd rfl (Or.inl rfl)) (fun _ _ _ _ _ => pts_nil) (fun _ _ _ _ _ => pe_ix (r := rIxL K) ix_list (pv 3) (pv 7) (fun _ _ => rfl))) pa_nil)))))) pss_dead pss_nil)))))
    (pss_one (ps_ret (pe_and (pe_cmpR (op_eqO ME GE r4 bE pass0) (pe_call (E := E0) GP hr rfl mP kP bP .nil passL (pa_cons (pv 1) (pa_cons (pe_lst pa_nil) pa_nil))) (pe_make (E := E0) Mm GM r9 rfl M.g bM .nil passL (pa_cons (pv 2) (pa_cons (pe_lst pa_nil) pa_nil))) (nomark _))
      (pe_one (pe_cmpR (op_eqO ME GE r4 bE pass0) (pe_call (E := E0) GP hr rfl mP kP bP .nil passL (pa_cons (pv 1) (pa_cons (pe_listRg rfl (by rfl) G.lst (prg_1 (by rfl) G.range (pe_callB (r := rLenA K) (call_lenA rfl) (by rfl) G.len PySem.boot_len (pa_cons (pv 3) pa_nil)))) pa_nil))) (pv 1) (nomark _)))))), ?_⟩
  have sz : sizeLine = 16777216 := sizeLine_eq
  have sok := sw_ok n2 n6 nd nmo ok
  have l40 : (rs.map (mkH ns)).length ≤ 40 := by rw [List.length_map]; omega
  refine ⟨2, rfl, by omega, by omega, ?_⟩
  refine for_range (lo := 0) (n := 2) (fun i σ H4 => ∃ z4 z5 z6 : Option V, σ = [some (V.ref p), some (.ref a), some (.ref nm), some (.ref rw), z4, z5, z6, none] ∧ Keep p H H4 ∧ Pen H4 p c (n + 7 * i)) ⟨_, _, _, rfl, Keep.refl _ _, pn⟩ ?_ ?_
  · rintro i σ H4 hi ⟨z4, z5, z6, rfl, k4', pn4⟩
    obtain ⟨ras, hrw, ral⟩ := id rwl
    have k04 := k4'
    have hrw4 := k04 _ _ rp hrw
    have lr := ral.1
    refine ⟨_, rfl, rw, _, rfl, .inl (SqL.of hrw4), _, rfl, by rw [List.length_map]; omega, by rw [List.length_map]; omega, fun D hD => ?_⟩
    have Dp : D ≠ p := (pn4.ne hD).1.symm
    obtain ⟨y1, y2⟩ := pn4.ne hD
    refine lc_range (lo := 0) (n := (((ras.map V.ref).length : Nat) : Int).toNat) (fun j H5 => ∃ ks : List Nat, ks.Pairwise (· < ·) ∧ (∀ k ∈ ks, k < j) ∧ H5 D = some (.lst (kV ks)) ∧ Keep p H4 H5 ∧ Pen H5 p c (n + 7 * i + j))
      ⟨[], .nil, by simp, upd_same, theKeep (upd_new hD), pn4.same (upd_new hD)⟩ ?_ ?_
    · rintro j H5 hj ⟨ks, asc, lt, h5', k5', pn5⟩
      have hj' : j < rs.length := by rw [← lr]; simpa using hj
      refine ⟨rfl, _, rfl, p, c, 2, _, rfl, pn5, by omega, by decide, by decide, fun r H6 r0 r1' k6' pn6 => ⟨rfl, decide (r = 0), by rw [decI], ?_⟩⟩
      have lk := nd_len (asc_nd asc) lt
      have h6' := k6' _ _ Dp h5'
      by_cases er : r = 0
      · rw [decide_eq_true er]
        refine iteT ⟨_, rfl, _, h6', by rw [show (kV ks).length = ks.length from List.length_map _]; omega, ks ++ [j], ?_, ?_, ?_, ?_, (pn6.upd y1 y2).mono (by omega)⟩
        · exact List.pairwise_append.mpr ⟨asc, List.pairwise_singleton _ _, fun x hx y hy => by rw [List.mem_singleton.mp hy]; exact lt x hx⟩
        · intro k hk
          rcases List.mem_append.mp hk with hk | hk
          · have := lt k hk; omega
          · rw [List.mem_singleton.mp hk]; omega
        · rw [upd_same]
          unfold kV
          rw [List.map_append, Int.zero_add]
          rfl
        · intro x o nx e
          rw [upd_ne (ne_of_none e hD)]
          exact k6' _ _ nx (k5' _ _ nx e)
      · rw [decide_eq_false er]
        exact iteF ⟨ks, asc, fun k hk => by have := lt k hk; omega, h6', k5'.trans k6', pn6.mono (by omega)⟩
    rintro H5 ⟨ks, asc, lt, h5', k5', pn5⟩
    have lt' : ∀ k ∈ ks, k < rs.length := fun k hk => by
      have := lt k hk
      rw [List.length_map, lr] at this
      simpa using this
    have pn5' : Pen H5 p c (n + 7 * i + 6) := pn5.mono (by rw [List.length_map, lr]; omega)
    have lk := nd_len (asc_nd asc) lt'
    have k05 := k04.trans k5'
    have hrw5 := k05 _ _ rp hrw
    have hnm5 := k05 _ _ np hnm
    dsimp only [gName]
    refine seq_any (R := fun v H' => ∃ (tb : Addr) (ms : List Nat), v = .ref tb ∧ Keep p H5 H' ∧ Pen H' p c (n + 7 * (i + 1)) ∧ SqA H' tb (kV ms) ∧ ms.Perm ks) (fun Q2 kq => ?_) ?_
    · refine ⟨_, rfl, p, c, 2, _, rfl, pn5', by omega, by decide, by decide, fun r H6 r0 r1' k6' pn6 => ⟨rfl, decide (r = 0), by rw [decI], ?_⟩⟩
      have hD6 := k6' _ _ Dp h5'
      by_cases er : r = 0
      · rw [decide_eq_true er]
        refine iteT ⟨_, rfl, D, _, rfl, SqL.of hD6, fun D3 nD3 => kq _ _ ⟨D3, ks.reverse, rfl, k6'.trans (theKeep (upd_new nD3)), (pn6.same (upd_new nD3)).mono (by omega), .inl ?_, List.reverse_perm _⟩⟩
        rw [upd_same]; unfold kV; rw [List.map_reverse]
      · rw [decide_eq_false er]
        exact iteF ⟨_, rfl, D, _, rfl, .inl ⟨SqL.of hD6, fun D3 nD3 => kq _ _ ⟨D3, ks, rfl, k6'.trans (theKeep (upd_new nD3)), (pn6.same (upd_new nD3)).mono (by omega), .inr upd_same, List.Perm.refl _⟩⟩⟩
    rintro _ H6 ⟨tb, ms, rfl, k6', pn6, sq6, pm⟩
    have k06 := k05.trans k6'
    have ha6 := ha.keepP pn k06
    refine ⟨_, rfl, _, rfl, .ref a, .ref tb, rfl, .inr ⟨a, ns, _, rfl, ha6, sok, l40, handsW_good sq6 pm asc (by rw [List.length_map]; exact lt') (by omega) ⟨ks, pm.map _, asc, by rw [List.length_map]; exact lt', fun pp Hq s6q npp swp => ?_⟩⟩⟩
    have k0q := k06.trans (theKeep s6q)
    have h5q := s6q _ _ (k6' _ _ Dp h5')
    have hrwq := k0q _ _ rp hrw
    refine ⟨_, rfl, ?_⟩
    refine ⟨_, rfl, D, rfl, ⟨_, SqL.of h5q⟩, fun D2 hD2 => ?_⟩
    refine lc_it (walk_list (xs := kV ks)) (fun j H6 => Same Hq H6 ∧ RwL H6 D2 (pickR rs (ks.take j))) ⟨upd_new hD2, [], upd_same, .nil⟩ (fun j H6 _ z => SqL.of (z.1 _ _ h5q)) ?_ ?_
    · rintro j x H6 H7 hj ⟨s6', as2, hd2, al2⟩ ⟨rfl, ex⟩
      obtain ⟨k, ek, rfl⟩ := map_at ex
      have hk := lt' k (List.mem_of_getElem? ek)
      have lj := (List.getElem?_eq_some_iff.mp ek).1
      obtain ⟨ra, era, hra⟩ := ral.getR (List.getElem?_eq_getElem hk)
      obtain ⟨pcs, pt, pr, hpp, _⟩ := id pn
      have hra7 := s6' _ _ (k0q _ _ (ne_of hra hpp (fun z => nomatch z)) hra)
      refine ⟨rfl, yes_of ⟨_, rfl, _, rfl, rw, _, _, _, rfl, rfl, SqL.of (s6' _ _ hrwq), atI_nat (v := .ref ra) (by rw [List.getElem?_map, era]; rfl), _, hd2, ?_, same_upd hD2 s6', as2 ++ [ra], by rw [upd_same, List.map_append]; rfl, ?_⟩⟩
      · have := pickR_len rs (ks.take j)
        rw [List.length_take] at this
        rw [List.length_map, al2.1]; omega
      · rw [take_more ek, pickR_more hk]
        have up : ∀ {u : Addr} {v : Row}, RwAt H7 u v → ∀ o, RwAt (upd H7 D2 o) u v := fun z o => by
          show upd _ _ _ _ = _
          rw [upd_ne (ne_of z hd2 (fun z => nomatch z))]; exact z
        exact All2.snoc (al2.mono fun u v z => up z _) (up hra7 _)
    rintro H6 ⟨s6', rd6⟩
    rw [show (kV ks).length = ks.length from List.length_map _, List.take_length] at rd6
    have lp := pickR_len rs ks
    rw [pickL_map] at swp
    refine ⟨pp, nm, D2, ns, pickR rs ks, rfl, swp.same s6', s6' _ _ (k0q _ _ np hnm), n6, nd, nmo, rd6, pickR_ok ok, by omega, fun H7 s7' => ⟨true, rfl, iteF ⟨_, _, _, rfl, k0q.trans (theKeep (s6'.trans s7')), ((pn6.same s6q).same s6').same s7'⟩⟩⟩
  · rintro σ H4 ⟨z4, z5, z6, rfl, k4', pn4⟩
    have ha4 := ha.keepP pn k4'
    have hnm4 := k4' _ _ np hnm
    obtain ⟨ras, hrw, ral⟩ := id rwl
    have lr := ral.1
    have hrw4 := k4' _ _ rp hrw
    refine ⟨_, rfl, (by show 0 ≤ sizeLine; omega), fun e0 ne0 => ?_⟩
    have s5' := upd_new (o := .lst []) ne0
    have he0 : upd H4 e0 (.lst []) e0 = some (.lst []) := upd_same
    generalize upd H4 e0 (.lst []) = H5 at s5' he0 ⊢
    refine ⟨.ref a, .ref e0, rfl, .inr ⟨a, ns, _, rfl, ha4.same s5', sok, l40, handsW_good (ms := []) (ks := []) (.inl he0) (List.Perm.refl _) .nil (by simp) (by simp) ⟨[], List.Perm.refl _, .nil, by simp, fun pp H6 s6' npp swp => ?_⟩⟩⟩
    refine ⟨_, rfl, (by show 0 ≤ sizeLine; omega), fun e1 ne1 => ?_⟩
    have s7' := upd_new (o := .lst []) ne1
    have he1 : upd H6 e1 (.lst []) e1 = some (.lst []) := upd_same
    generalize upd H6 e1 (.lst []) = H7 at s7' he1 ⊢
    have s47 := (s5'.trans s6').trans s7'
    dsimp only [tNil]
    refine mk_swap0 (Q := fun v H' => rEqO K CS (spSEq C CH CS) E0 (.ref pp) v H' _) (.inl (s47 _ _ hnm4)) (as := []) (.inl he1) All2.nil (⟨n2, n6, nd, nmo, by simp⟩ : SwOk ns []) (by simp) fun pn2 H8 s8' npn2 sw2 => ?_
    refine eq_sw R NS.e ((swp.same s7').same s8') sw2 nmo fun H9 s9' => ?_
    have s49 := (s47.trans s8').trans s9'
    refine ⟨true, rfl, iteT ⟨_, rfl, _, rfl, rw, _, rfl, .inl (SqL.of (s49 _ _ hrw4)), _, rfl, ?_, fun l nl => ?_⟩⟩
    · rw [List.length_map, lr]
      exact RgOk.of_le (by decide) (by omega) (by decide) (by omega)
    have e : rgV 0 (((ras.map V.ref).length : Nat) : Int) = kV (List.range rs.length) := by
      unfold rgV kV
      rw [List.length_map, lr]
      simp
    rw [e]
    have s10' := upd_new (o := .lst (kV (List.range rs.length))) nl
    have hl : upd H9 l (.lst (kV (List.range rs.length))) l = some (.lst (kV (List.range rs.length))) := upd_same
    generalize upd H9 l (.lst (kV (List.range rs.length))) = H10 at s10' hl ⊢
    have s410 := s49.trans s10'
    refine ⟨.ref a, .ref l, rfl, .inr ⟨a, ns, _, rfl, ha4.same s410, sok, l40, handsW_good (.inl hl) (List.Perm.refl _) (List.pairwise_lt_range) (by simp) (by simp; omega) ⟨List.range rs.length, List.Perm.refl _, List.pairwise_lt_range, by simp, fun p3 H11 s11' np3 sw3 => ⟨_, rfl, ?_⟩⟩⟩⟩
    rw [pickL_map, show pickR rs (List.range rs.length) = rs from pickR_all rs] at sw3
    refine eq_sw R NS.e sw3 (ha4.same (s410.trans s11')) nmo fun H12 s12' => q H12 (k4'.trans (theKeep ((s410.trans s11').trans s12'))) ((pn4.same ((s410.trans s11').trans s12')).mono (by omega))
end
end K5

/-! k05: _law_heard. -/
namespace K5
open PySem PySem.Spec PyProof.Rows L2 LamX K1 K18

/-- isinstance(error, c) -/
def kT (K : PySem.W.Frag) (a b : Addr) (r : Bool) : Prop := PySem.W.kitOne K (.ref a) (.ref b) = some r
/-- an error that is told -/
structure ErH (K : PySem.W.Frag) (mg : Str → Option Value) (x : Str) (C LE : Addr) : Prop where
  g : mg x = some (.ref C)
  e : ExcC K C
  le : PySem.W.exmOne K (.ref C) (.ref LE) = some true
theorem ErH.xf {K : PySem.W.Frag} {mg : Str → Option Value} {x : Str} {C LE : Addr} (h : ErH K mg x C LE) : XfC K C := ⟨h.e.hg, h.e.hk, h.e.hs, h.e.hd⟩
structure Hrd (K : PySem.W.Frag) (mg : Str → Option Value) (LE CW CD CI CT CU CM : Addr) : Prop where
  gl : mg "LastError" = some (.ref LE)
  w : ErH K mg "BadSwap" CW LE
  d : ErH K mg "BadDone" CD LE
  i : ErH K mg "NoHand" CI LE
  t : ErH K mg "Twice" CT LE
  u : ErH K mg "Unlike" CU LE
  m : ErH K mg "TooMany" CM LE
  fw : PySem.W.findIn K (.ref CW) "part" = some none
  fd : PySem.W.findIn K (.ref CD) "part" = some none
  fi : PySem.W.findIn K (.ref CI) "number" = some none
  ft : PySem.W.findIn K (.ref CT) "value" = some none
  fu : PySem.W.findIn K (.ref CU) "what" = some none
  fm : PySem.W.findIn K (.ref CM) "what" = some none
  fo : PySem.W.findIn K (.ref CM) "most" = some none
  ww : kT K CW CW true
  dw : kT K CD CW false
  dd : kT K CD CD true
  iw : kT K CI CW false
  id : kT K CI CD false
  ii : kT K CI CI true
  tw : kT K CT CW false
  td : kT K CT CD false
  ti : kT K CT CI false
  tt : kT K CT CT true
  uw : kT K CU CW false
  ud : kT K CU CD false
  ui : kT K CU CI false
  ut : kT K CU CT false
  uu : kT K CU CU true
  mw : kT K CM CW false
  md : kT K CM CD false
  mi : kT K CM CI false
  mt : kT K CM CT false
  mu : kT K CM CU false
  mm : kT K CM CM true
/-- the pair that is told -/
def Tell (H : Hp) (x y : V) (Q : VK) : Prop := ∀ t H', Same H H' → H' t = some (.tup [x, y]) → Q (.ref t) H'
def HeardW (CW CD CI CT CU CM : Addr) (cls : Value) (d : Option Addr) (H : Hp) (Q : VK) : Prop := ∃ dd : Addr, d = some dd ∧
  ((∃ v, cls = .ref CW ∧ H dd = some (.xd [("part", v)]) ∧ Tell H (.str "swap") v Q) ∨ (∃ v, cls = .ref CD ∧ H dd = some (.xd [("part", v)]) ∧ Tell H (.str "done") v Q) ∨ (∃ v, cls = .ref CI ∧ H dd = some (.xd [("number", v)]) ∧ Tell H (.str "hand") v Q) ∨
   (∃ v, cls = .ref CT ∧ H dd = some (.xd [("value", v)]) ∧ Tell H (.str "twice") v Q) ∨ (∃ v, cls = .ref CU ∧ H dd = some (.xd [("what", v)]) ∧ Tell H (.str "unlike") v Q) ∨ (∃ v k, cls = .ref CM ∧ H dd = some (.xd [("most", k), ("what", v)]) ∧ Tell H v k Q))
def TTh (CW CD CI CT CU CM : Addr) : (XK → Hp → VK → Prop) → Hp → VK → Prop := fun tl H Q => ∀ (E : XK) (Q0 : VK), (∀ cls d H', HeardW CW CD CI CT CU CM cls d H' Q → E cls d H') → (∀ v H', Q .non H' → Q0 v H') → tl E H Q0
theorem pe_alt {X : Cx} {e : Expr} {t1 t2 : TE} (h1 : PE X e t1) (h2 : PE X e t2) : PE X e (fun σ H Q => t1 σ H Q ∨ t2 σ H Q) := ⟨fun pins s σ H Q I h => h.elim (h1.run pins s σ H Q I) (h2.run pins s σ H Q I)⟩
abbrev nHeard : List Str := ["_law_ask", "_law_heard_here", "error"]
theorem scHeard : FnScope nHeard ["_law_ask"] (defScope sHeard) := ⟨rfl, rfl, rfl, by decide +kernel, rfl, by decide +kernel, by decide +kernel⟩
theorem heard_gives {X : Cx} {g LE CW CD CI CT CU CM : Addr} {cdg : Value} {q : Str} (G : Glob X.mg) (B : Hrd X.K X.mg LE CW CD CI CT CU CM) :
    Gives1 X nHeard "_law_heard" (defScope sHeard) g cdg (defBody sHeard) "_law_ask" q (TTh CW CD CI CT CU CM) := by
  intro f c' s H Q tl act hc h
  refine ⟨_, pss_cons (ps_set (i := 1) scHeard.nd rfl (Or.inl rfl) pe_non) (pss_cons (ps_try_manyAs (X := (cxOf C8.CX0 X.prog X.w X.K X.mg X.base nHeard "_law_heard" (defScope sHeard) g cdg X.A X.stack s H C8.E0).nox) (i := 2) (n := "error") (l := [(.ref LE, _)])
      rfl rfl scHeard.nd rfl rfl LamX.takes0 (fun W pn xe tk _ => pss_one (ps_expr (act W pn xe _ _ tk)))
      (.cons ⟨rfl, by decide, .inl B.gl⟩ (fun a oe cls d pn hz hf => pss_cons (ps_set (i := 1) scHeard.nd rfl (Or.inl rfl) (pe_tup (pa_cons pe_str (pa_cons pe_non pa_nil))))
        (pss_one (ps_if (PW.pt (pw_or (pt_val (pe_callB (call_isD hz hf) (by rfl) G.isi (by decide +kernel) (pa_cons (pv 2) (pa_cons (pe_glob (v := .ref CW) rfl B.w.g rfl) pa_nil)))) (pw_or1 (pt_val (pe_callB (call_isD hz hf) (by rfl) G.isi (by decide +kernel) (pa_cons (pv 2) (pa_cons (pe_glob (v := .ref CD) rfl B.d.g rfl) pa_nil)))))))
          (pss_one (ps_set (i := 1) scHeard.nd rfl (Or.inl rfl) (pe_tup (pa_cons (pe_ifExp (pt_val (pe_callB (call_isD hz hf) (by rfl) G.isi (by decide +kernel) (pa_cons (pv 2) (pa_cons (pe_glob (v := .ref CW) rfl B.w.g rfl) pa_nil)))) pe_str pe_str) (pa_cons (pe_alt (pe_xf B.w.xf B.fw hz hf (pv 2)) (pe_xf B.d.xf B.fd hz hf (pv 2))) pa_nil)))))
          (pss_one (ps_if (pt_val (pe_callB (call_isD hz hf) (by rfl) G.isi (by decide +kernel) (pa_cons (pv 2) (pa_cons (pe_glob (v := .ref CI) rfl B.i.g rfl) pa_nil))))
            (pss_one (ps_set (i := 1) scHeard.nd rfl (Or.inl rfl) (pe_tup (pa_cons pe_str (pa_cons (pe_xf B.i.xf B.fi hz hf (pv 2)) pa_nil)))))
            (pss_one (ps_if (pt_val (pe_callB (call_isD hz hf) (by rfl) G.isi (by decide +kernel) (pa_cons (pv 2) (pa_cons (pe_glob (v := .ref CT) rfl B.t.g rfl) pa_nil))))
              (pss_one (ps_set (i := 1) scHeard.nd rfl (Or.inl rfl) (pe_tup (pa_cons pe_str (pa_cons (pe_xf B.t.xf B.ft hz hf (pv 2)) pa_nil)))))
              (pss_one (ps_if (pt_val (pe_callB (call_isD hz hf) (by rfl) G.isi (by decide +kernel) (pa_cons (pv 2) (pa_cons (pe_glob (v := .ref CU) rfl B.u.g rfl) pa_nil))))
                (pss_one (ps_set (i := 1) scHeard.nd rfl (Or.inl rfl) (pe_tup (pa_cons pe_str (pa_cons (pe_xf B.u.xf B.fu hz hf (pv 2)) pa_nil)))))
                (pss_one (ps_if (pt_val (pe_callB (call_isD hz hf) (by rfl) G.isi (by decide +kernel) (pa_cons (pv 2) (pa_cons (pe_glob (v := .ref CM) rfl B.m.g rfl) pa_nil))))
                  (pss_one (ps_set (i := 1) scHeard.nd rfl (Or.inl rfl) (pe_tup (pa_cons (pe_xf B.m.xf B.fm hz hf (pv 2)) (pa_cons (pe_xf B.m.xf B.fo hz hf (pv 2)) pa_nil)))))
                  pss_nil))))))))))) .nil))
    (pss_one (ps_ret (pv 1)))), ?_⟩
  have two : 2 ≤ sizeLine := by rw [sizeLine_eq]; omega
  refine ⟨rfl, hc, h _ _ (fun cls d H' fw => ?_) (fun v H' q => ⟨_, rfl, q⟩)⟩
  obtain ⟨dd, rfl, fw⟩ := fw
  rcases fw with ⟨v, rfl, hd, k⟩ | ⟨v, rfl, hd, k⟩ | ⟨v, rfl, hd, k⟩ | ⟨v, rfl, hd, k⟩ | ⟨v, rfl, hd, k⟩ | ⟨v, kk, rfl, hd, k⟩
  · refine ⟨true, B.w.le, fun _ a na => ?_, fun z => Bool.noConfusion z⟩
    refine ⟨two, fun t nt => ?_⟩
    have s1 := upd_new (o := .tup [V.str "other", .non]) nt
    have hd1 := s1 _ _ hd
    generalize upd H' t (.tup [V.str "other", .non]) = H1 at s1 hd1 ⊢
    refine ⟨_, rfl, CW, dd, _, _, .ref CW, true, rfl, rfl, hd1, B.w.e, rfl, fun u r => r, B.ww, true, rfl, iteT ⟨_, rfl, CW, dd, _, _, .ref CW, true, rfl, rfl, hd1, B.w.e, rfl, fun u r => r, B.ww, true, rfl, iteT (.inl ⟨_, rfl, rfl, rfl, dd, _, v, rfl, hd1, rfl, two, fun t2 nt2 => ⟨_, rfl, k t2 _ (s1.trans (upd_new nt2)) upd_same⟩⟩)⟩⟩
  · refine ⟨true, B.d.le, fun _ a na => ?_, fun z => Bool.noConfusion z⟩
    refine ⟨two, fun t nt => ?_⟩
    have s1 := upd_new (o := .tup [V.str "other", .non]) nt
    have hd1 := s1 _ _ hd
    generalize upd H' t (.tup [V.str "other", .non]) = H1 at s1 hd1 ⊢
    refine ⟨_, rfl, CD, dd, _, _, .ref CW, false, rfl, rfl, hd1, B.d.e, rfl, fun u r => r, B.dw, false, rfl, iteF ⟨_, rfl, CD, dd, _, _, .ref CD, true, rfl, rfl, hd1, B.d.e, rfl, fun u r => r, B.dd, true, rfl, iteT ⟨_, rfl, CD, dd, _, _, .ref CW, false, rfl, rfl, hd1, B.d.e, rfl, fun u r => r, B.dw, false, rfl, iteF (.inr ⟨_, rfl, rfl, rfl, dd, _, v, rfl, hd1, rfl, two, fun t2 nt2 => ⟨_, rfl, k t2 _ (s1.trans (upd_new nt2)) upd_same⟩⟩)⟩⟩⟩
  · refine ⟨true, B.i.le, fun _ a na => ?_, fun z => Bool.noConfusion z⟩
    refine ⟨two, fun t nt => ?_⟩
    have s1 := upd_new (o := .tup [V.str "other", .non]) nt
    have hd1 := s1 _ _ hd
    generalize upd H' t (.tup [V.str "other", .non]) = H1 at s1 hd1 ⊢
    refine ⟨_, rfl, CI, dd, _, _, .ref CW, false, rfl, rfl, hd1, B.i.e, rfl, fun u r => r, B.iw, false, rfl, iteF ⟨_, rfl, CI, dd, _, _, .ref CD, false, rfl, rfl, hd1, B.i.e, rfl, fun u r => r, B.id, false, rfl, iteF ⟨_, rfl, CI, dd, _, _, .ref CI, true, rfl, rfl, hd1, B.i.e, rfl, fun u r => r, B.ii, true, rfl, iteT ⟨_, rfl, rfl, rfl, dd, _, v, rfl, hd1, rfl, two, fun t2 nt2 => ⟨_, rfl, k t2 _ (s1.trans (upd_new nt2)) upd_same⟩⟩⟩⟩⟩
  · refine ⟨true, B.t.le, fun _ a na => ?_, fun z => Bool.noConfusion z⟩
    refine ⟨two, fun t nt => ?_⟩
    have s1 := upd_new (o := .tup [V.str "other", .non]) nt
    have hd1 := s1 _ _ hd
    generalize upd H' t (.tup [V.str "other", .non]) = H1 at s1 hd1 ⊢
    refine ⟨_, rfl, CT, dd, _, _, .ref CW, false, rfl, rfl, hd1, B.t.e, rfl, fun u r => r, B.tw, false, rfl, iteF ⟨_, rfl, CT, dd, _, _, .ref CD, false, rfl, rfl, hd1, B.t.e, rfl, fun u r => r, B.td, false, rfl, iteF ⟨_, rfl, CT, dd, _, _, .ref CI, false, rfl, rfl, hd1, B.t.e, rfl, fun u r => r, B.ti, false, rfl, iteF ⟨_, rfl, CT, dd, _, _, .ref CT, true, rfl, rfl, hd1, B.t.e, rfl, fun u r => r, B.tt, true, rfl, iteT ⟨_, rfl, rfl, rfl, dd, _, v, rfl, hd1, rfl, two, fun t2 nt2 => ⟨_, rfl, k t2 _ (s1.trans (upd_new nt2)) upd_same⟩⟩⟩⟩⟩⟩
  · refine ⟨true, B.u.le, fun _ a na => ?_, fun z => Bool.noConfusion z⟩
    refine ⟨two, fun t nt => ?_⟩
    have s1 := upd_new (o := .tup [V.str "other", .non]) nt
    have hd1 := s1 _ _ hd
    generalize upd H' t (.tup [V.str "other", .non]) = H1 at s1 hd1 ⊢
    refine ⟨_, rfl, CU, dd, _, _, .ref CW, false, rfl, rfl, hd1, B.u.e, rfl, fun u r => r, B.uw, false, rfl, iteF ⟨_, rfl, CU, dd, _, _, .ref CD, false, rfl, rfl, hd1, B.u.e, rfl, fun u r => r, B.ud, false, rfl, iteF ⟨_, rfl, CU, dd, _, _, .ref CI, false, rfl, rfl, hd1, B.u.e, rfl, fun u r => r, B.ui, false, rfl, iteF ⟨_, rfl, CU, dd, _, _, .ref CT, false, rfl, rfl, hd1, B.u.e, rfl, fun u r => r, B.ut, false, rfl, iteF ⟨_, rfl, CU, dd, _, _, .ref CU, true, rfl, rfl, hd1, B.u.e, rfl, fun u r => r, B.uu, true, rfl, iteT ⟨_, rfl, rfl, rfl, dd, _, v, rfl, hd1, rfl, two, fun t2 nt2 => ⟨_, rfl, k t2 _ (s1.trans (upd_new nt2)) upd_same⟩⟩⟩⟩⟩⟩⟩
  · refine ⟨true, B.m.le, fun _ a na => ?_, fun z => Bool.noConfusion z⟩
    refine ⟨two, fun t nt => ?_⟩
    have s1 := upd_new (o := .tup [V.str "other", .non]) nt
    have hd1 := s1 _ _ hd
    generalize upd H' t (.tup [V.str "other", .non]) = H1 at s1 hd1 ⊢
    refine ⟨_, rfl, CM, dd, _, _, .ref CW, false, rfl, rfl, hd1, B.m.e, rfl, fun u r => r, B.mw, false, rfl, iteF ⟨_, rfl, CM, dd, _, _, .ref CD, false, rfl, rfl, hd1, B.m.e, rfl, fun u r => r, B.md, false, rfl, iteF ⟨_, rfl, CM, dd, _, _, .ref CI, false, rfl, rfl, hd1, B.m.e, rfl, fun u r => r, B.mi, false, rfl, iteF ⟨_, rfl, CM, dd, _, _, .ref CT, false, rfl, rfl, hd1, B.m.e, rfl, fun u r => r, B.mt, false, rfl, iteF ⟨_, rfl, CM, dd, _, _, .ref CU, false, rfl, rfl, hd1, B.m.e, rfl, fun u r => r, B.mu, false, rfl, iteF ⟨_, rfl, CM, dd, _, _, .ref CM, true, rfl, rfl, hd1, B.m.e, rfl, fun u r => r, B.mm, true, rfl, iteT ⟨_, rfl, rfl, rfl, dd, _, v, rfl, hd1, rfl, _, rfl, rfl, rfl, dd, _, kk, rfl, hd1, rfl, two, fun t2 nt2 => ⟨_, rfl, k t2 _ (s1.trans (upd_new nt2)) upd_same⟩⟩⟩⟩⟩⟩⟩⟩
end K5

/-! k05: calls of a def with *args by plain arguments. -/
namespace K5
open PySem PySem.Spec PyProof.Rows L2 LamX K1 K18

section
variable {X : Cx} {CX : CXT} {k : Nat} {f : Addr} {sp : Sp} {E : XK} {x : Str} {e : Expr} {es : List Expr} {p pos : Pos} {t : TA}
theorem pe_callR0 (F : FnR X.prog X.w X.K X.mg X.base CX k f sp) (hr : Room k X.A) (hk : PySem.W.keepIn X.K (.ref f) = true) (hg : Gl X x) (hm : X.mg x = some (.ref f)) (hx : Passes CX X E) (hd : (x == ("__debug__" : Str)) = false := by decide) :
    PE X (.Call (.Name x p) [] [] pos) (fun σ H Q => sp [] H Q E) :=
  ⟨fun pins s σ H Q I h => wpAny_Call_Name_kw (ld_glob I hg hm (PySem.W.callWith_K0 I.kIn hk (wpAny_call (run_fnR F hr hx I .nil h))) hd)⟩
theorem pe_callR (F : FnR X.prog X.w X.K X.mg X.base CX k f sp) (hr : Room k X.A) (hk : PySem.W.keepIn X.K (.ref f) = true) (hg : Gl X x) (hm : X.mg x = some (.ref f)) (hx : Passes CX X E) (ha : PA X (e :: es) t) (hd : (x == ("__debug__" : Str)) = false := by decide)
    (he : starEach (e :: es) X.env = (false, eval e X.env) :: starEach es X.env := by rfl) (hpl : (backTo pos (starEach es X.env)).any (·.1) = false := by rfl) : PE X (.Call (.Name x p) (e :: es) [] pos) (fun σ H Q => t σ H fun vs H1 => sp vs H1 Q E) := by
  refine ⟨fun pins s σ H Q I h => wpAny_Call_Name_kw (ld_glob I hg hm ?_ hd)⟩
  exact PySem.W.callWith_K (h₀ := X.base) I.ok.mod.kin hk (thn (ha.run pos pins s σ H _ I h) fun us s1 ⟨vs, H1, I1, r, q⟩ => ⟨I1.kIn, wpAny_call (run_fnR F hr hx I1 r q)⟩) he hpl
end
end K5

/-! k05: for _law_refused_right: what stays when tables grow; what is heard, item by item. -/
namespace K5
open PySem PySem.Spec PyProof.Rows L2 LamX K1 K18

theorem tabs_same {T : List (Addr × Str)} {H H' : Hp} (s : Same H H') (t : Tabs T H) : Tabs T H' := fun p hp => (t p hp).ext s
theorem Pen.tabs {T : List (Addr × Str)} {H H' : Hp} {p c : Addr} {n : Nat} (pn : Pen H p c n) (k : Keep p H H') (t : Tabs T H) : Tabs T H' := fun q hq => by
  obtain ⟨cs, tt, r, x, _⟩ := pn
  obtain ⟨ps, h1, h2, h3⟩ := t q hq
  refine ⟨ps, k _ _ (ne_of h1 x (by intro z; cases z)) h1, h2, fun pos cv hc => ?_⟩
  obtain ⟨c', e1, e2⟩ := h3 pos cv hc
  exact ⟨c', e1, k _ _ (ne_of e2 x (fun z => nomatch z)) e2⟩
theorem Same.extN {H H' : Hp} (s : Same H H') : ExtN H H' := fun b o e _ => s b o e
section
variable {K : PySem.W.Frag} {C CH CS : Addr} {H H' : Hp} {a : Addr}
theorem Six.extN {s : Int} (x : ExtN H H') (h : Six C H a s) : Six C H' a s := let ⟨dx, z⟩ := h; ⟨dx, x _ _ z (fun _ z => nomatch z)⟩
theorem HandAt.extN {h : Hnd} (x : ExtN H H') (k : HandAt C CH H a h) : HandAt C CH H' a h := let ⟨dx, pc, pd, z1, z2, z3⟩ := k; ⟨dx, pc, pd, x _ _ z1 (fun _ z => nomatch z), z2.extN x, z3.extN x⟩
theorem SwAt.extN {ns : List Str} {hs : List Hnd} (x : ExtN H H') (h : SwAt C CH CS H a ns hs) : SwAt C CH CS H' a ns hs :=
  let ⟨dx, ps, ph, pn, as, nas, h1, h2, h3, h4, h5, h6⟩ := h
  ⟨dx, ps, ph, pn, as, nas, x _ _ h1 (fun _ z => nomatch z), x _ _ h2 (fun _ z => nomatch z), x _ _ h3 (fun _ z => nomatch z), h4.mono fun _ _ z => z.extN x, x _ _ h5 (fun _ z => nomatch z), h6.mono fun _ _ z => z.extN x⟩
theorem RwL.extN {d : Addr} {rs : List Row} (x : ExtN H H') (h : RwL H d rs) : RwL H' d rs := let ⟨as, a, b⟩ := h; ⟨as, x _ _ a (fun _ z => nomatch z), b.mono fun _ _ z => x _ _ z (fun _ z => nomatch z)⟩
theorem TyOf.extN {v : V} {t : Value} (x : ExtN H H') (h : TyOf K H v t) : TyOf K H' v t := by
  cases h with
  | non => exact .non
  | bl b => exact .bl b
  | int i => exact .int i
  | str s => exact .str s
  | flt f => exact .flt f
  | lst e => exact .lst (x _ _ e (fun _ z => nomatch z))
  | frz e => exact .frz (x _ _ e (fun _ z => nomatch z))
  | tup e => exact .tup (x _ _ e (fun _ z => nomatch z))
  | dK e => exact .dK (x _ _ e (fun _ z => nomatch z))
  | dT e => exact .dT (x _ _ e (fun _ z => nomatch z))
  | ins e cl ha hn htk hm => exact .ins (x _ _ e (fun _ z => nomatch z)) cl ha hn htk hm
end
/-! ### odd values -/
structure OddF (K : PySem.W.Frag) (CS : Addr) : Prop where
  k : ∀ t ∈ oddT, PySem.W.kitOne K (.type t) (.ref CS) = some false
  a : ∀ t ∈ oddT, ∃ fo ro : Option Value, PySem.W.findIn K (.type t) (PySem.dunder Operator.Add.info.2) = some fo ∧ PySem.W.findIn K (.type t) (dunderR Operator.Add.info.2) = some ro ∧ PySem.W.subIn K (.type t) (.ref CS) = some false
def OddV (K : PySem.W.Frag) (H : Hp) (v : V) : Prop := ∃ t ∈ oddT, TyOf K H v (.type t)
theorem OddV.notSw {K : PySem.W.Frag} {CS : Addr} {H : Hp} {v : V} (O : OddF K CS) (h : OddV K H v) : NotSw K CS H v := let ⟨t, m, ty⟩ := h; ⟨_, ty, O.k t m⟩
theorem OddV.right {K : PySem.W.Frag} {CS : Addr} {H : Hp} {v : V} (O : OddF K CS) (h : OddV K H v) : RightO K CS .Add v H := let ⟨t, m, ty⟩ := h; let ⟨fo, ro, z1, z2, z3⟩ := O.a t m; .inr ⟨t, fo, ro, ty, z1, z2, z3⟩
theorem OddV.extN {K : PySem.W.Frag} {H H' : Hp} {v : V} (x : ExtN H H') (h : OddV K H v) : OddV K H' v := let ⟨t, m, ty⟩ := h; ⟨t, m, TyOf.extN x ty⟩
/-- not a done set -/
def BadV (K : PySem.W.Frag) (H : Hp) (v : V) : Prop := NotSeq K H v ∨ ∃ a xs bs, v = .ref a ∧ H a = some (.lst xs) ∧ xs.length ≤ 1000 ∧ (∀ H', IBs K H' xs bs) ∧ bs.all id = false
theorem BadV.extN {K : PySem.W.Frag} {H H' : Hp} {v : V} (x : ExtN H H') (h : BadV K H v) : BadV K H' v := h.imp (fun ⟨t, ty, k⟩ => ⟨t, TyOf.extN x ty, k⟩) fun ⟨a, xs, bs, e, l, z⟩ => ⟨a, xs, bs, e, x _ _ l (fun _ z => nomatch z), z⟩
theorem TyOf.keepP {K : PySem.W.Frag} {H H' : Hp} {p c : Addr} {n : Nat} {v : V} {t : Value} (pn : Pen H p c n) (k : Keep p H H') (np : v ≠ .ref p) (h : TyOf K H v t) : TyOf K H' v t := by
  have q : ∀ {a : Addr}, V.ref a ≠ .ref p → a ≠ p := fun z e => z (by rw [e])
  cases h with
  | non => exact .non
  | bl b => exact .bl b
  | int i => exact .int i
  | str s => exact .str s
  | flt f => exact .flt f
  | lst e => exact .lst (k _ _ (q np) e)
  | frz e => exact .frz (k _ _ (q np) e)
  | tup e => exact .tup (k _ _ (q np) e)
  | dK e => exact .dK (k _ _ (q np) e)
  | dT e => exact .dT (k _ _ (q np) e)
  | ins e cl ha hn htk hm => exact .ins (k _ _ (q np) e) cl ha hn htk hm
theorem OddV.keepP {K : PySem.W.Frag} {H H' : Hp} {p c : Addr} {n : Nat} {v : V} (pn : Pen H p c n) (k : Keep p H H') (np : v ≠ .ref p) (h : OddV K H v) : OddV K H' v := let ⟨t, m, ty⟩ := h; ⟨t, m, TyOf.keepP pn k np ty⟩
theorem BadV.keepP {K : PySem.W.Frag} {H H' : Hp} {p c : Addr} {n : Nat} {v : V} (pn : Pen H p c n) (k : Keep p H H') (np : v ≠ .ref p) (h : BadV K H v) : BadV K H' v := h.imp (fun ⟨t, ty, z⟩ => ⟨t, TyOf.keepP pn k np ty, z⟩) fun ⟨a, xs, bs, e, l, z⟩ => ⟨a, xs, bs, e, k _ _ (fun w => np (by rw [e, w])) l, z⟩
/-! ### what is heard -/
def It (H : Hp) (v : V) : Option (V × V) → Prop
  | some (x, y) => ∃ t, v = .ref t ∧ H t = some (.tup [x, y])
  | none => v = .non
theorem It.extN {H H' : Hp} {v : V} {o : Option (V × V)} (x : ExtN H H') (h : It H v o) : It H' v o := by
  cases o with
  | none => exact h
  | some p => exact let ⟨t, e, z⟩ := h; ⟨t, e, x _ _ z (fun _ z => nomatch z)⟩
theorem It.upd {H : Hp} {v : V} {o : Option (V × V)} {L : Addr} {xs : List V} {u : HO} (hL : H L = some (.lst xs)) (h : It H v o) : It (upd H L u) v o := by
  cases o with
  | none => exact h
  | some p => exact let ⟨t, e, z⟩ := h; ⟨t, e, by rw [upd_ne (ne_of z hL (fun z => nomatch z))]; exact z⟩
/-- so far, the list at L -/
structure Hd (T : List (Addr × Str)) (HA : Hp) (L : Addr) (os : List (Option (V × V))) (H : Hp) : Prop where
  ext : ExtN HA H
  tb : Tabs T H
  ne : ∀ b o, HA b = some o → (∀ ps, o ≠ .tbl ps) → b ≠ L
  l : ∃ vs, H L = some (.lst vs) ∧ All2 (It H) vs os
/-- a value of one kind or the other, the heap behind it -/
def One (T : List (Addr × Str)) (HA : Hp) (te : TE) (σ : L2.St) (o : Option (V × V)) : Prop := ∀ (H : Hp) (Q : VK), ExtN HA H → Tabs T H → (∀ v H2, ExtN H H2 → Tabs T H2 → It H2 v o → Q v H2) → te σ H Q
section
variable {T : List (Addr × Str)} {HA H : Hp} {K : PySem.W.Frag} {L : Addr} {os : List (Option (V × V))} {oA oB : Option (V × V)} {tA tB : TE} {σ : L2.St} {D : Ends} {i : Nat}
theorem hd_ext (h : Hd T HA L os H) (l : os.length ≤ 100) (hσ : σ[i]? = some (some (.ref L))) (A : One T HA tA σ oA) (B : One T HA tB σ oB) (next : ∀ H', Hd T HA L (os ++ [oA, oB]) H' → D.nx σ H') :
    tDrop (tBM K "list" rExtend (tVar i) (tCons (tLst (tCons tA (tCons tB tNil))) tNil)) D σ H := by
  have sz : sizeLine = 16777216 := sizeLine_eq
  obtain ⟨vs, h1, al⟩ := h.l
  refine ⟨_, hσ, .inl ⟨rfl, _, SqL.of h1⟩, A H _ h.ext h.tb fun va H2 x2 t2 ia => B H2 _ (h.ext.trans x2) t2 fun vb H3 x3 t3 ib => ⟨(by show 2 ≤ sizeLine; omega), fun lp nl => ?_⟩⟩
  have x13 := x2.trans x3
  have h3 := x13 _ _ h1 (fun _ z => nomatch z)
  have s4 := upd_new (o := .lst [va, vb]) nl
  have hl : upd H3 lp (.lst [va, vb]) lp = some (.lst [va, vb]) := upd_same
  generalize upd H3 lp (.lst [va, vb]) = H4 at s4 hl ⊢
  have h4 := s4 _ _ h3
  have x14 := x13.trans (Same.extN s4)
  have lv := al.1
  refine ⟨L, lp, vs, [va, vb], rfl, rfl, h4, hl, (by show vs.length + 2 ≤ sizeLine; omega), next _ ⟨fun b o e n => ?_, fun q hq => ?_, h.ne, _, upd_same, ?_⟩⟩
  · rw [upd_ne (h.ne _ _ e n)]
    exact x14 _ _ (h.ext _ _ e n) n
  · obtain ⟨ps, z1, z2, z3⟩ := tabs_same s4 t3 q hq
    refine ⟨ps, by rw [upd_ne (ne_of z1 h4 (fun z => nomatch z))]; exact z1, z2, fun pos cv hc => ?_⟩
    obtain ⟨c', e1, e2⟩ := z3 pos cv hc
    exact ⟨c', e1, by rw [upd_ne (ne_of e2 h4 (fun z => nomatch z))]; exact e2⟩
  · have a1 : All2 (It H4) vs os := al.mono fun u v z => z.extN x14
    have a2 := (a1.snoc (((ia.extN x3)).extN (Same.extN s4))).snoc (ib.extN (Same.extN s4))
    rw [List.append_assoc, List.append_assoc] at a2
    exact a2.mono fun u v z => z.upd h4
theorem hd_new {T0 : TS} (tbA : Tabs T HA) (A : One T HA tA σ oA) (B : One T HA tB σ oB) (next : ∀ L H', Hd T HA L [oA, oB] H' → T0 D (σ.set i (some (.ref L))) H') : tSeq (tAsg (tLst (tCons tA (tCons tB tNil))) (gName i)) T0 D σ HA := by
  have sz : sizeLine = 16777216 := sizeLine_eq
  refine A HA _ (ExtN.refl _) tbA fun va H2 x2 t2 ia => B H2 _ x2 t2 fun vb H3 x3 t3 ib => ⟨(by show 2 ≤ sizeLine; omega), fun L nL => next L _ ?_⟩
  have x13 := x2.trans x3
  have s4 := upd_new (o := .lst [va, vb]) nL
  exact ⟨x13.trans (Same.extN s4), tabs_same s4 t3, fun b o e n => ne_of_none (x13 _ _ e n) nL, _, upd_same, (All2.nil.snoc ((ia.extN x3).extN (Same.extN s4))).snoc (ib.extN (Same.extN s4))⟩
theorem hd_app (h : Hd T HA L os H) (l : os.length ≤ 100) (hσ : σ[i]? = some (some (.ref L))) (A : One T HA tA σ oA) (next : ∀ H', Hd T HA L (os ++ [oA]) H' → D.nx σ H') :
    tDrop (tBM K "list" rAppend (tVar i) (tCons tA tNil)) D σ H := by
  have sz : sizeLine = 16777216 := sizeLine_eq
  obtain ⟨vs, h1, al⟩ := h.l
  refine ⟨_, hσ, .inl ⟨rfl, _, SqL.of h1⟩, A H _ h.ext h.tb fun va H2 x2 t2 ia => ?_⟩
  have h2 := x2 _ _ h1 (fun _ z => nomatch z)
  have lv := al.1
  refine ⟨L, vs, va, rfl, rfl, h2, by omega, next _ ⟨fun b o e n => ?_, fun q hq => ?_, h.ne, _, upd_same, ?_⟩⟩
  · rw [upd_ne (h.ne _ _ e n)]
    exact x2 _ _ (h.ext _ _ e n) n
  · obtain ⟨ps, z1, z2, z3⟩ := t2 q hq
    refine ⟨ps, by rw [upd_ne (ne_of z1 h2 (fun z => nomatch z))]; exact z1, z2, fun pos cv hc => ?_⟩
    obtain ⟨c', e1, e2⟩ := z3 pos cv hc
    exact ⟨c', e1, by rw [upd_ne (ne_of e2 h2 (fun z => nomatch z))]; exact e2⟩
  · exact (All2.snoc (al.mono fun u v z => z.extN x2) ia).mono fun u v z => z.upd h2
variable {CW CD CI CT CU CM Cx : Addr} {t : XK → TE} {fs : List (Str × V)} {x y : V}
/-- an error is heard -/
theorem one_err (hw : ∀ d H' Q, H' d = some (.xd fs) → Tell H' x y Q → HeardW CW CD CI CT CU CM (.ref Cx) (some d) H' Q) (body : ∀ H1, ExtN HA H1 → ∀ (E : XK) (Q0 : VK), (∀ d H', ToldF H1 H' d fs → E (.ref Cx) (some d) H') → t E σ H1 Q0) : One T HA (tLam T (TTh CW CD CI CT CU CM) t) σ (some (x, y)) :=
  fun H Q x0 tb k => ⟨tb, fun H1 ex tb1 E Q0 hE hN => body H1 (x0.trans ex) E Q0 fun d H' told => hE _ _ _ (hw d H' _ told.at_ fun u H2 s2 hu => k _ _ (ex.trans (Same.extN (told.same.trans s2))) (tabs_same (told.same.trans s2) tb1) ⟨u, rfl, hu⟩)⟩
/-- none is -/
theorem one_non (body : ∀ H1, ExtN HA H1 → ∀ (E : XK) (Q0 : VK), (∀ v H', Same H1 H' → Q0 v H') → t E σ H1 Q0) : One T HA (tLam T (TTh CW CD CI CT CU CM) t) σ none :=
  fun H Q x0 tb k => ⟨tb, fun H1 ex tb1 E Q0 hE hN => body H1 (x0.trans ex) E Q0 fun v H' s => hN v H' (k _ _ (ex.trans (Same.extN s)) (tabs_same s tb1) rfl)⟩
theorem hw_w {v : V} : ∀ d H' Q, H' d = some (.xd [("part", v)]) → Tell H' (.str "swap") v Q → HeardW CW CD CI CT CU CM (.ref CW) (some d) H' Q := fun d H' Q e k => ⟨d, rfl, .inl ⟨v, rfl, e, k⟩⟩
theorem hw_d {v : V} : ∀ d H' Q, H' d = some (.xd [("part", v)]) → Tell H' (.str "done") v Q → HeardW CW CD CI CT CU CM (.ref CD) (some d) H' Q := fun d H' Q e k => ⟨d, rfl, .inr (.inl ⟨v, rfl, e, k⟩)⟩
theorem hw_i {v : V} : ∀ d H' Q, H' d = some (.xd [("number", v)]) → Tell H' (.str "hand") v Q → HeardW CW CD CI CT CU CM (.ref CI) (some d) H' Q := fun d H' Q e k => ⟨d, rfl, .inr (.inr (.inl ⟨v, rfl, e, k⟩))⟩
theorem hw_t {v : V} : ∀ d H' Q, H' d = some (.xd [("value", v)]) → Tell H' (.str "twice") v Q → HeardW CW CD CI CT CU CM (.ref CT) (some d) H' Q := fun d H' Q e k => ⟨d, rfl, .inr (.inr (.inr (.inl ⟨v, rfl, e, k⟩)))⟩
theorem hw_u {v : V} : ∀ d H' Q, H' d = some (.xd [("what", v)]) → Tell H' (.str "unlike") v Q → HeardW CW CD CI CT CU CM (.ref CU) (some d) H' Q := fun d H' Q e k => ⟨d, rfl, .inr (.inr (.inr (.inr (.inl ⟨v, rfl, e, k⟩))))⟩
theorem hw_m : ∀ d H' Q, H' d = some (.xd fTooMany) → Tell H' (.str "hands") (.int 40) Q → HeardW CW CD CI CT CU CM (.ref CM) (some d) H' Q := fun d H' Q e k => ⟨d, rfl, .inr (.inr (.inr (.inr (.inr ⟨_, _, rfl, e, k⟩))))⟩
end
end K5

/-! k05: for _law_refused_right: its values. -/
namespace K5
open PySem PySem.Spec PyProof.Rows L2 LamX K1 K18

def moreS : Str := "zzzzzzzzzzz9"
def moreL : List Nat := [122, 122, 122, 122, 122, 122, 122, 122, 122, 122, 122, 57]
theorem more_eq : moreS = S moreL := by decide +kernel
theorem more_nm : Nm moreS := by
  rw [more_eq]
  exact Nl.nm ⟨⟨122, rfl, by decide⟩, by decide⟩ (by decide)
theorem more_no {n : Str} (h : Drwn n) : n ≠ moreS := by
  obtain ⟨l, rfl, nl, h⟩ := h
  rw [more_eq]
  intro e
  have el : l = moreL := SX.S_inj e
  subst el
  rcases h with h | ⟨st, s, e1, l11, ms⟩
  · exact absurd h (by decide)
  · have e2 : moreL = st ++ [s] := e1
    have : moreL.getLast? = some s := by rw [e2]; simp
    have e3 : s = 57 := by
      have : (some 57 : Option Nat) = some s := this
      exact (Option.some.inj this).symm
    rw [e3] at ms
    exact absurd ms (by decide)
theorem nd_snoc {ns : List Str} (nd : ns.Nodup) (dr : ∀ n ∈ ns, Drwn n) : (ns ++ [moreS]).Nodup := List.nodup_append.mpr ⟨nd, by simp, fun x hx y hy => by rw [List.mem_singleton.mp hy]; exact more_no (dr x hx)⟩
theorem cut1 {ns : List Str} (n2 : 2 ≤ ns.length) : cutV (ns.map V.str) none (some 1) = [V.str (ns.getD 0 "")] := by
  match ns, n2 with
  | x :: y :: r, _ =>
    unfold cutV
    simp [HT.sIx]
    done
theorem rev_ne {ns : List Str} (nd : ns.Nodup) (n2 : 2 ≤ ns.length) : ns.reverse ≠ ns := fun e => by
  have h0 : ns[0]? = ns.reverse[0]? := by rw [e]
  rw [List.getElem?_reverse (by omega), List.getElem?_eq_getElem (by omega), List.getElem?_eq_getElem (by omega)] at h0
  exact absurd (Option.some.inj h0) (List.pairwise_iff_getElem.mp nd 0 (ns.length - 1 - 0) (by omega) (by omega) (by omega))
/-- other strangers -/
theorem oth1 {ns : List Str} (nd : ns.Nodup) (n2 : 2 ≤ ns.length) (n4 : ns.length ≤ 4) (nm : ∀ n ∈ ns, Nm n) : SwOk ns.reverse [] ∧ ns.reverse ≠ ns := ⟨⟨by simpa using n2, by simp; omega, List.pairwise_reverse.mpr (nd.imp fun h => Ne.symm h), fun n h => nm n (List.mem_reverse.mp h), by simp⟩, rev_ne nd n2⟩
theorem oth2 {ns : List Str} (nd : ns.Nodup) (n2 : 2 ≤ ns.length) (n4 : ns.length ≤ 4) (dr : ∀ n ∈ ns, Drwn n) : SwOk (ns ++ [moreS]) [] ∧ ns ++ [moreS] ≠ ns := ⟨⟨by simp; omega, by simp; omega, nd_snoc nd dr, fun n h => (List.mem_append.mp h).elim (fun z => (dr n z).nm) fun z => by rw [List.mem_singleton.mp z]; exact more_nm, by simp⟩, fun e => by simpa using congrArg List.length e⟩
theorem oth3 {ns : List Str} (nd : ns.Nodup) (n2 : 2 ≤ ns.length) (dr : ∀ n ∈ ns, Drwn n) : SwOk [ns.getD 0 "", moreS] [] ∧ [ns.getD 0 "", moreS] ≠ ns := by
  have h0 : ns.getD 0 "" ∈ ns := getD_in (by omega)
  refine ⟨⟨by simp, by simp, by simpa using more_no (dr _ h0), fun n h => ?_, by simp⟩, fun e => ?_⟩
  · simp at h
    rcases h with rfl | rfl
    · exact (dr _ h0).nm
    · exact more_nm
  · exact more_no (dr moreS (by rw [← e]; simp)) rfl
/-- one hand-over many times -/
theorem rep_hands {C CH : Addr} {H : Hp} {a : Addr} {h : Hnd} (z : HandAt C CH H a h) (k : Nat) : Hands C CH H (List.replicate k a) (List.replicate k h) := ⟨by simp, fun i x y ex ey => by
  rw [List.getElem?_replicate] at ex ey
  split at ex
  · cases ex
    rw [if_pos (by assumption)] at ey
    cases ey
    exact z
  · cases ex⟩
theorem rep_ok {ns : List Str} {h : Hnd} (n2 : 2 ≤ ns.length) (n4 : ns.length ≤ 4) (nd : ns.Nodup) (nm : ∀ n ∈ ns, Nm n) (ok : HnOk h) (g : h.g ∈ ns) (t : h.t ∈ ns) (k : Nat) : SwOk ns (List.replicate k h) := ⟨n2, by omega, nd, nm, fun x hx => by rw [List.eq_of_mem_replicate hx]; exact ⟨ok, g, t⟩⟩
end K5

/-! k05: for _law_refused_right: what is heard against what is due. -/
namespace K5
open PySem PySem.Spec PyProof.Rows L2 LamX K1 K18

def vD : V → PyData
  | .str s => .str s
  | .int n => .int n
  | _ => .none
def itD : Option (V × V) → PyData
  | some (x, y) => .tuple [vD x, vD y]
  | none => .none
/-- texts and ints -/
def GoodO : Option (V × V) → Prop
  | some (.str s, .str t) => PyData.strOk s = true ∧ PyData.strOk t = true
  | some (.str s, .int _) => PyData.strOk s = true
  | none => True
  | _ => False
theorem good_lay : ∀ {o : Option (V × V)}, GoodO o → (itD o).canLay0 = true ∧ (itD o).depth ≤ 8
  | none, _ => ⟨rfl, by simp [itD, PyData.depth]⟩
  | some (.str s, .str t), h => by
    obtain ⟨h1, h2⟩ : PyData.strOk s = true ∧ PyData.strOk t = true := h
    constructor <;> simp [itD, vD, PyData.canLay0, PyData.canLayAll0, PyData.depth, PyData.depthAll, h1, h2]
  | some (.str s, .int n), h => by
    have h1 : PyData.strOk s = true := h
    constructor <;> simp [itD, vD, PyData.canLay0, PyData.canLayAll0, PyData.depth, PyData.depthAll, h1]
theorem goods_lay : ∀ {os : List (Option (V × V))}, (∀ o ∈ os, GoodO o) → PyData.canLayAll0 (os.map itD) = true ∧ PyData.depthAll (os.map itD) ≤ 8
  | [], _ => by simp [PyData.canLayAll0, PyData.depthAll]
  | x :: xs, h => by
    obtain ⟨a, b⟩ := goods_lay (os := xs) fun y m => h y (List.mem_cons_of_mem _ m)
    obtain ⟨c, d⟩ := good_lay (h x (List.mem_cons_self ..))
    rw [List.map_cons, PyData.canLayAll0, PyData.depthAll, c, a]
    exact ⟨rfl, by omega⟩
theorem goods_sh {os : List (Option (V × V))} (h : ∀ o ∈ os, GoodO o) : SeqAt.shaped (.list (os.map itD)) = true ∧ PyData.eqv (.list (os.map itD)) (.list (os.map itD)) = true := by
  obtain ⟨a, b⟩ := goods_lay h
  constructor
  · show (PyData.canLay0 (.list (os.map itD)) && decide (PyData.depth (.list (os.map itD)) ≤ 64)) = true
    rw [PyData.canLay0, a, PyData.depth, decide_eq_true (by omega)]; rfl
  · exact PySem.SeqAt.eqv_refl _ (by rw [PyData.canLay0, a])
theorem good_dp {K : PySem.W.Frag} {H : Hp} {v : V} : ∀ {o : Option (V × V)}, GoodO o → It H v o → Dp K H v (itD o)
  | none, _, h => by rw [show v = .non from h]; exact .non
  | some (.str s, .str t), _, h => let ⟨u, e, z⟩ := h; by rw [e]; exact .tup (SqT.of z) (.cons (.str _) (.cons (.str _) .nil))
  | some (.str s, .int n), _, h => let ⟨u, e, z⟩ := h; by rw [e]; exact .tup (SqT.of z) (.cons (.str _) (.cons (.int _) .nil))
theorem goods_dp {K : PySem.W.Frag} {H : Hp} : ∀ {vs : List V} {os : List (Option (V × V))}, (∀ o ∈ os, GoodO o) → All2 (It H) vs os → DpAll K H vs (os.map itD)
  | [], [], _, _ => .nil
  | v :: vs, o :: os, h, al => .cons (good_dp (h o (List.mem_cons_self ..)) (al.2 0 v o rfl rfl)) (goods_dp (fun y m => h y (List.mem_cons_of_mem _ m)) ⟨by simpa using al.1, fun i x y ex ey => al.2 (i + 1) x y (by simpa using ex) (by simpa using ey)⟩)
  | [], o :: os, _, al => by have := al.1; simp at this
  | v :: vs, [], _, al => by have := al.1; simp at this
/-- a new pair -/
theorem tup_l {tx ty : TE} {x y : V} {σ : L2.St} {H : Hp} {Q : VK} (X : ∀ Q' : VK, Q' x H → tx σ H Q') (Y : ∀ Q' : VK, Q' y H → ty σ H Q') (k : ∀ t H', Same H H' → It H' (.ref t) (some (x, y)) → Q (.ref t) H') : tTup (tCons tx (tCons ty tNil)) σ H Q :=
  X _ (Y _ ⟨(by show 2 ≤ sizeLine; rw [sizeLine_eq]; decide), fun t nt => k t _ (upd_new nt) ⟨t, rfl, upd_same⟩⟩)
theorem It.same {H H' : Hp} {v : V} {o : Option (V × V)} (s : Same H H') (h : It H v o) : It H' v o := h.extN (Same.extN s)
theorem Hd.same {T : List (Addr × Str)} {HA H H' : Hp} {L : Addr} {os : List (Option (V × V))} (s : Same H H') (h : Hd T HA L os H) : Hd T HA L os H' := ⟨h.ext.trans (Same.extN s), tabs_same s h.tb, h.ne, let ⟨vs, e, al⟩ := h.l; ⟨vs, s _ _ e, al.mono fun _ _ z => z.same s⟩⟩
theorem Hd.rebase {T : List (Addr × Str)} {HA H : Hp} {L : Addr} {os : List (Option (V × V))} (h : Hd T HA L os H) : Hd T (delH H L) L os H ∧ ExtN HA (delH H L) := by
  refine ⟨⟨fun b o e n => ?_, h.tb, fun b o e n z => ?_, h.l⟩, fun b o e n => ?_⟩
  · by_cases z : b = L
    · rw [z, delH_same] at e; cases e
    · rwa [delH_ne z] at e
  · rw [z, delH_same] at e; cases e
  · rw [delH_ne (h.ne _ _ e n)]
    exact h.ext _ _ e n
theorem It.del {H : Hp} {v : V} {o : Option (V × V)} {L : Addr} {xs : List V} (hL : H L = some (.lst xs)) (h : It H v o) : It (delH H L) v o := by
  cases o with
  | none => exact h
  | some p => exact let ⟨t, e, z⟩ := h; ⟨t, e, by rw [delH_ne (ne_of z hL (fun z => nomatch z))]; exact z⟩
section
variable {C CH CS : Addr} {H : Hp} {a b c : Addr} {p q r : List Str × List Hnd}
theorem swaps2 (h1 : SwAt C CH CS H a p.1 p.2) (h2 : SwAt C CH CS H b q.1 q.2) : Swaps C CH CS H [a, b] [p, q] := All2.snoc (xs := [a]) (ys := [p]) (All2.snoc (xs := []) (ys := []) All2.nil h1) h2
theorem swaps1 (h1 : SwAt C CH CS H a p.1 p.2) : Swaps C CH CS H [a] [p] := All2.snoc (xs := []) (ys := []) All2.nil h1
theorem swaps3 (h1 : SwAt C CH CS H a p.1 p.2) (h2 : SwAt C CH CS H b q.1 q.2) (h3 : SwAt C CH CS H c r.1 r.2) : Swaps C CH CS H [a, b, c] [p, q, r] := All2.snoc (xs := [a, b]) (ys := [p, q]) (swaps2 h1 h2) h3
end
/-! rows as data -/
def rowD (r : Row) : PyData := .tuple [.int r.g, .int r.t, .int r.c, .int r.d]
theorem rows_sh (rs : List Row) : SeqAt.shaped (.list (rs.map rowD)) = true := (shaped_tup (f := rowD) (fun r => by simp [rowD, PyData.canLay0, PyData.canLayAll0]) (fun r => by simp [rowD, PyData.depth, PyData.depthAll]) rs).2
theorem rows_dp {K : PySem.W.Frag} {H : Hp} : ∀ {as : List Addr} {rs : List Row}, All2 (RwAt H) as rs → DpAll K H (as.map V.ref) (rs.map rowD)
  | [], [], _ => .nil
  | a :: as, r :: rs, al => .cons (.tup (SqT.of (al.2 0 a r rfl rfl)) (.cons (.int _) (.cons (.int _) (.cons (.int _) (.cons (.int _) .nil))))) (rows_dp ⟨by simpa using al.1, fun i x y ex ey => al.2 (i + 1) x y (by simpa using ex) (by simpa using ey)⟩)
  | [], r :: rs, al => by have := al.1; simp at this
  | a :: as, [], al => by have := al.1; simp at this
def spRef (T : List (Addr × Str)) (C CH CS : Addr) : Sp := fun vs H Q _ => ∃ (p c a nm rw : Addr) (ns : List Str) (rs : List Row) (n : Nat), vs = [.ref p, .ref a, .ref nm, .ref rw] ∧ Tabs T H ∧ Pen H p c n ∧ n + 60 < 100000 ∧ nm ≠ p ∧ rw ≠ p ∧ SwAt C CH CS H a ns (rs.map (mkH ns)) ∧ H nm = some (.lst (ns.map V.str)) ∧ 2 ≤ ns.length ∧ ns.length ≤ 4 ∧ ns.Nodup ∧ (∀ n ∈ ns, Drwn n) ∧
  RwL H rw rs ∧ (∀ r ∈ rs, RwOk ns.length r) ∧ rs.length ≤ 6 ∧ ∀ H', Q (.bl true) H'
end K5

/-! k05: _law_refused_right, its text. -/
namespace K5
open PySem PySem.Spec PyProof.Rows L2 LamX K1 K18 NdefX

/-- a def of the program, its code at c -/
structure DefC (K : PySem.W.Frag) (x qual : Str) (st : Stmt) (f : Addr) (fd : FuncData) (c : Addr) : Prop where
  ex : ∃ (oc : Value) (od : Option Addr) (dV kV doc pm : Value) (an : Option Addr) (ct : Value) (osl : Array (Option Value)),
    fd = PySem.W.fnOf x qual (defArgs st) (defBody st) (defScope st) dV kV doc pm an (.ref c) ct ∧ K.lookup f = some ⟨oc, od, .func fd, osl⟩ ∧ PySem.W.codeIn K (.ref c) qual = true
theorem okC {P : Program} {w : World} {K : PySem.W.Frag} {mg : Str → Option Value} {base : Heap} {x qual : Str} {st : Stmt} {f c : Addr} {fd : FuncData} {N ps : List Str} {k : Nat} {sp : Sp} (D : DefC K x qual st f fd c) (S : FnScope N ps (defScope st)) (len : ∀ vs H Q E, sp vs H Q E → vs.length = ps.length)
    (hb : ∀ (A : Around) (outer : List Env) (s : Shared) (H : Hp) (vs : List V) (Q : VK) (E : XK), Room k (A.deeper (envOfC qual (defScope st) s.heap.objs.size f (.ref c))) → sp vs H Q E →
      ∃ t, PSs (cxOf CX0 P w K mg base N qual (defScope st) f (.ref c) A outer s H E).nox (defBody st) t ∧ t { nx := fun _ H' => Q .non H', rt := Q } (start N vs) H) : FnOk P w K mg base CX0 (k + 1) f fd ps sp := by
  obtain ⟨oc, od, dV, kV, doc, pm, an, ct, osl, rfl, lk, hcd⟩ := D.ex
  refine ⟨len, fun A outer s H args us vs Q E hr e0 hbd r hsp => run_ofS lk hcd S hr e0 hbd r (len _ _ _ _ hsp) fun hr2 => ?_⟩
  obtain ⟨t, h1, h2⟩ := hb A outer s H vs Q E hr2 hsp
  exact ⟨t, h1.nox, h2⟩
structure HasHeard (K : PySem.W.Frag) (mg : Str → Option Value) (LE CW CD CI CT CU CM : Addr) : Prop where
  h : ∃ (g : Addr) (fd : FuncData), mg "_law_heard" = some (.ref g) ∧ DefAt K "_law_heard" "_law_heard" sHeard g fd
  f : Hrd K mg LE CW CD CI CT CU CM
theorem pe_hd {X : Cx} {T : List (Addr × Str)} {LE CW CD CI CT CU CM c P_ : Addr} {params : Arguments} {body : Expr} {scope : Scope} {t : XK → TE} {p lpos pos : Pos} (G : Glob X.mg) (HF : HasHeard X.K X.mg LE CW CD CI CT CU CM) (TB : TabB X.base X.mg c P_) (hr : Room 14 X.A) (hg : Gl X "_law_heard") (hcode : X.env.code = .ref c) (hmT : (P_, X.env.qual ++ "<lambda>") ∈ T) (hu : ∀ p ∈ T, p.1 = P_ → p.2 = X.env.qual ++ "<lambda>")
    (L : LamS X.env.scope scope) (hdef : defaultsOf params X.env = ([], [])) (hbind : ∀ (q : Str) (cl : List (Str × Addr)) (pm cv ctv : Value), bindArgs (PySem.W.kla_fn "<lambda>" q params body scope cl pm cv ctv) ⟨[], []⟩ = pure [])
    (hbody : ∀ (σ0 : L2.St) (A : Around) (outer : List Env) (s : Shared) (H : Hp) (E : XK) (f c' : Addr), Room 12 (A.deeper (lamEnv X scope s.heap.objs.size f c')) → CellF X σ0 s.heap H → PE (lamCx X A outer s H E scope f c') body (fun σ H' Q => σ = σ0 ∧ t E σ H' Q)) :
    PE X (.Call (.Name "_law_heard" p) [.Lambda params body scope lpos] [] pos) (tLam T (TTh CW CD CI CT CU CM) t) := by
  obtain ⟨g, fdg, mF, FF⟩ := HF.h
  have kF := FF.kp
  have bF : Binds X.K fdg ["_law_ask"] [] := FF.bindsN fun _ _ _ _ _ _ us hl => match us, hl with | [_], _ => rfl
  obtain ⟨ocR, odR, dVR, kVR, docR, pmR, anR, cdvR, ctR, oslR, rfl, lkF, hcF, _, _⟩ := FF.ex
  exact pe_lam1 (k := 12) (Ng := nHeard) hg mF kF lkF hcF bF scHeard rfl (.inl rfl) (heard_gives G HF.f) TB hcode hmT hu hr L hdef hbind hbody
abbrev nRef5 : List Str := ["_law_pen_here", "_law_swap", "_law_names_here", "_law_rows_here", "_law_more", "_law_heard_here", "_law_due", "_law_full", "_law_bad", "_law_last", "_law_long", "_law_odd", "_law_other"]
abbrev qRef5 : Str := (("_law_refused_right" : Str) ++ (".<locals>." : Str)) ++ ("<lambda>" : Str)
theorem scRef5 : FnScope nRef5 ["_law_pen_here", "_law_swap", "_law_names_here", "_law_rows_here"] (defScope sRefused) := ⟨rfl, rfl, rfl, by decide +kernel, rfl, by decide +kernel, by decide +kernel⟩
/-- the defs the lambdas call -/
structure Ask (P : Program) (w : World) (K : PySem.W.Frag) (mg : Str → Option Value) (base : Heap) (C CH CS CW CD CI CT CU CM : Addr) : Prop where
  b : HasBack P w K mg base C CH CS CW
  p : HasPor P w K mg base C CH CS CW CD CI CT
  o : ∃ f, mg "one_after" = some (.ref f) ∧ PySem.W.keepIn K (.ref f) = true ∧ FnR P w K mg base (L2.CX P w) 10 f (fun vs H Q E => ∃ rest, vs = rest ∧ rest.length ≤ sizeLine ∧ ∀ p, H p = none → spOne K C CH CS CW CU CM [.ref p] (upd H p (.tup rest)) Q E)
  a : AddO P w K mg base CS (L2.CX P w) 10 (spSAdd K C CH CS CW CU CM)
section
variable {P : Program} {w : World} {K : PySem.W.Frag} {mg : Str → Option Value} {base : Heap} {f C CH CS CW CD CI CT CU CM LE cc PT_ : Addr} {fd : FuncData}
theorem cons_l {tA : TE} {tB : TA} {σ : L2.St} {H : Hp} {Q : List V → Hp → Prop} (h : tA σ H fun v H1 => tB σ H1 fun vs H2 => Q (v :: vs) H2) : tCons tA tB σ H Q := h
theorem lst_l {tA : TA} {σ : L2.St} {H : Hp} {Q : VK} (h : tA σ H fun xs H1 => xs.length ≤ sizeLine ∧ ∀ p, H1 p = none → Q (.ref p) (upd H1 p (.lst xs))) : tLst tA σ H Q := h
theorem mk_emp {tS : TE} {σ : L2.St} {H : Hp} {Q : VK} {ms : List Str} (A : ∀ Q' : VK, (∀ sa H', Same H H' → H' sa = some (.lst (ms.map V.str)) → Q' (.ref sa) H') → tS σ H Q') (ok : SwOk ms []) (k : ∀ b H', Same H H' → SwAt C CH CS H' b ms [] → Q (.ref b) H') :
    tMake CS (spSInit C CH CS CM) [] E0 (tCons tS (tCons (tLst tNil) tNil)) σ H Q := by
  have sz : sizeLine = 16777216 := sizeLine_eq
  refine A _ fun sa H1 s1 hsa => ⟨(by show 0 ≤ sizeLine; omega), fun e1 ne1 => ?_⟩
  exact mk_swap0 (as := []) (.inl (upd_new ne1 _ _ hsa)) (.inl upd_same) All2.nil ok (by simp) fun b H2 s2 _ sw => k b H2 ((s1.trans (upd_new ne1)).trans s2) sw
theorem mk_many {tS : TE} {σ : L2.St} {H : Hp} {Q : VK} {ns : List Str} {j : Nat} {nm : Addr} (hσ : σ[j]? = some (some (.ref nm)))
    (A : ∀ Q' : VK, (∀ l as hs H', H' nm = some (.lst (ns.map V.str)) → H' l = some (.lst (as.map V.ref)) → Hands C CH H' as hs → SwOk ns hs → hs.length ≤ 40 → (∀ b H2, Same H' H2 → SwAt C CH CS H2 b ns hs → Q (.ref b) H2) → Q' (.ref l) H') → tS σ H Q') :
    tMake CS (spSInit C CH CS CM) [] E0 (tCons (tVar j) (tCons tS tNil)) σ H Q := by
  refine ⟨_, hσ, A _ fun l as hs H1 h1 hl hh ok l40 k => ?_⟩
  exact mk_swap0 (.inl h1) (.inl hl) hh ok l40 fun b H2 s2 _ sw => k b H2 s2 sw
theorem mk_h {t : TA} {σ : L2.St} {H : Hp} {Q : VK} {h : Hnd} {vc vd : V} (args : ∀ Q' : List V → Hp → Prop, Q' [.str h.g, .str h.t, vc, vd] H → t σ H Q') (ok : HnOk h) (sc : SixV C H vc h.c) (sd : SixV C H vd h.d) (k : ∀ q H', Same H H' → HandAt C CH H' q h → Q (.ref q) H') : tMake CH (spHInit C CH) [] E0 t σ H Q :=
  args _ (mk_hand ok sc sd fun q H' s _ ha => k q H' s ha)
/-- [hand] * (m + draw) -/
theorem rep_draw {tH : TE} {σ : L2.St} {H : Hp} {Q : VK} {ns : List Str} {h : Hnd} {nm p c : Addr} {m : Int} {n : Nat} (hσ : σ[0]? = some (some (.ref p))) (pn : Pen H p c n) (hn : n < 100000) (np : nm ≠ p) (hnm : H nm = some (.lst (ns.map V.str))) (m0 : 0 ≤ m) (m1 : m ≤ 39)
    (A : ∀ Q' : VK, (∀ q H', Same H H' → HandAt C CH H' q h → Q' (.ref q) H') → tH σ H Q')
    (k : ∀ (l : Addr) (j : Nat) (H' : Hp), (j : Int) = m ∨ (j : Int) = m + 1 → Keep p H H' → Pen H' p c (n + 1) → H' nm = some (.lst (ns.map V.str)) → ∀ as, H' l = some (.lst (as.map V.ref)) → Hands C CH H' as (List.replicate j h) → Q (.ref l) H') :
    tOp rRep (tLst (tCons tH tNil)) (tOp (rI0 fun i j => .int (i + j)) (tC (.int m)) (tCall spDraw [] E0 (tCons (tVar 0) (tCons (tC (.int 2)) tNil)))) σ H Q := by
  have sz : sizeLine = 16777216 := sizeLine_eq
  refine A _ fun q H1 s1 hq => ⟨(by show 1 ≤ sizeLine; omega), fun l nl => ?_⟩
  have s2 := upd_new (o := .lst [V.ref q]) nl
  have hl : upd H1 l (.lst [V.ref q]) l = some (.lst [V.ref q]) := upd_same
  have pl := ((pn.same s1).ne nl).1.symm
  generalize upd H1 l (.lst [V.ref q]) = H2 at s2 hl ⊢
  have s12 := s1.trans s2
  refine ⟨_, hσ, p, c, 2, _, rfl, pn.same s12, hn, by decide, by decide, fun r H3 r0 r1 k3 pn3 => ⟨_, _, rfl, rfl, l, _, _, rfl, rfl, k3 _ _ pl hl, by omega, by omega, (by show 1 * _ ≤ _; omega), fun l2 nl2 => ?_⟩⟩
  have s4 := upd_new (o := .lst (List.replicate (m + r).toNat [V.ref q]).flatten) nl2
  have e : (List.replicate (m + r).toNat [V.ref q]).flatten = (List.replicate (m + r).toNat q).map V.ref := by rw [List.flatten_replicate_singleton, List.map_replicate]
  refine k l2 (m + r).toNat _ (by omega) ((theKeep s12).trans (k3.trans (theKeep s4))) (pn3.same s4) (s4 _ _ (k3 _ _ np (s12 _ _ hnm))) (List.replicate (m + r).toNat q) (by rw [upd_same, e]) ?_
  exact rep_hands (((hq.same s2).keepP (pn.same s12) k3).same s4) _
theorem ok_ref {T : List (Addr × Str)} (G : Glob mg) (O : OddF K CS) (R : SwapF K CS) (M : MkS P w K mg base C CH CS CM) (MH : MkH P w K mg base C CH) (LO : LenO P w K mg base C CH CS) (AK : Ask P w K mg base C CH CS CW CD CI CT CU CM) (HT : HasDraw P w K mg base) (HP : HasPick P w K mg base) (HF : HasHeard K mg LE CW CD CI CT CU CM)
    (TB : TabB base mg cc PT_) (memT : (PT_, qRef5) ∈ T) (uniT : ∀ p ∈ T, p.1 = PT_ → p.2 = qRef5) (F : DefC K "_law_refused_right" "_law_refused_right" sRefused f fd cc) : FnOk P w K mg base CX0 15 f fd ["_law_pen_here", "_law_swap", "_law_names_here", "_law_rows_here"] (spRef T C CH CS) := by
  obtain ⟨fm, fdm, Mm, GM, bM⟩ := M.m
  obtain ⟨fh, fdh, Hm, GH, bH⟩ := MH.m
  obtain ⟨fb, fdb, mB, kB, bB, GB⟩ := AK.b.h
  obtain ⟨fq, fdq, mQ, kQ, bQ, GQ⟩ := AK.p.h
  obtain ⟨fo, mO, kO, GO⟩ := AK.o
  obtain ⟨fa, fda, MA, bA, GA⟩ := AK.a.o.h
  obtain ⟨ft, fdt, mT, kT, bT, GT⟩ := HT.h
  obtain ⟨fp, fdp, mP, kP, bP, GP⟩ := HP.h
  obtain ⟨fl, fdl, ML, bL, GL⟩ := LO.o.h
  refine okC F scRef5 (fun vs H Q E ⟨p, c, a, nm, rw, ns, rs, n, e, _⟩ => by rw [e]; rfl) (fun A outer s H vs Q E hr ⟨p, c, a, nm', rw, ns, rs, n, e, tb, pn, hn, np, rp, ha, hnm, n2, n4, nd, dr, rwl, ok, l6, q_⟩ => ?_)
  subst e
  have hu64 : (A.deeper (envOfC "_law_refused_right" (defScope sRefused) s.heap.objs.size f (.ref cc))).units + 64 < cLine := by have := hr.un; omega
  have r9 := hr.mono (show 9 ≤ 14 by decide)
  have r8 := hr.mono (show 8 ≤ 14 by decide)
  have r2 := hr.mono (show 2 ≤ 14 by decide)
  have r1 := hr.mono (show 1 ≤ 14 by decide)
  refine ⟨_, pss_cons (ps_set (i := 11) scRef5.nd rfl (Or.inr rfl) (pe_call GP r2 rfl mP kP bP .nil pass0 (pa_cons (pv 0) (pa_cons (pe_lst (pa_cons pe_non (pa_cons (pv 2) (pa_cons pe_str (pa_cons pe_int (pa_cons (pe_fld (pv 1) rfl) (pa_cons pe_bl pa_nil))))))) pa_nil))))
    (pss_cons (ps_set (i := 8) scRef5.nd rfl (Or.inr rfl) (pe_call GP r2 rfl mP kP bP .nil pass0 (pa_cons (pv 0) (pa_cons (pe_lst (pa_cons pe_non (pa_cons (pv 2) (pa_cons pe_str (pa_cons pe_int (pa_cons (pe_disp (pps_cons pe_int pe_int pps_nil) rfl rfl (List.cons_ne_nil _ _) (by decide)) (pa_cons (pe_lst (pa_cons pe_int (pa_cons pe_bl pa_nil))) pa_nil))))))) pa_nil))))
    (pss_cons (ps_set (i := 4) scRef5.nd rfl (Or.inl rfl) pe_str)
    (pss_cons (ps_set (i := 12) scRef5.nd rfl (Or.inr rfl) (pe_call GP r2 rfl mP kP bP .nil pass0 (pa_cons (pv 0) (pa_cons (pe_lst (pa_cons (pe_make (E := E0) Mm GM r9 rfl M.g bM .nil passL (pa_cons (pe_revL (pv 2)) (pa_cons (pe_lst pa_nil) pa_nil))) (pa_cons (pe_make (E := E0) Mm GM r9 rfl M.g bM .nil passL (pa_cons (pe_op op_cat (pv 2) (pe_lst (pa_cons (pv 4) pa_nil))) (pa_cons (pe_lst pa_nil) pa_nil))) (pa_cons (pe_make (E := E0) Mm GM r9 rfl M.g bM .nil passL (pa_cons (pe_op op_cat (pe_slice sl_list (pv 2) po_none (po_some pe_int)) (pe_lst (pa_cons (pv 4) pa_nil))) (pa_cons (pe_lst pa_nil) pa_nil))) pa_nil)))) pa_nil))))
    (pss_cons (ps_set (i := 10) scRef5.nd rfl (Or.inr rfl) (pe_make (E := E0) Mm GM r9 rfl M.g bM .nil passL (pa_cons (pv 2) (pa_cons (pe_op op_rep (pe_lst (pa_cons (pe_make Hm GH r8 rfl MH.g bH .nil pass0 (pa_cons (pe_ix ix_list (pv 2) pe_int (fun _ _ => rfl)) (pa_cons (pe_ix ix_list (pv 2) pe_int (fun _ _ => rfl)) (pa_cons pe_int (pa_cons pe_int pa_nil))))) pa_nil)) (pe_op op_add pe_int (pe_call GT r1 rfl mT kT bT .nil pass0 (pa_cons (pv 0) (pa_cons pe_int pa_nil))))) pa_nil))))
    (pss_cons (ps_set (i := 9) scRef5.nd rfl (Or.inr rfl) (pe_make (E := E0) Mm GM r9 rfl M.g bM .nil passL (pa_cons (pv 2) (pa_cons (pe_op op_rep (pe_lst (pa_cons (pe_make Hm GH r8 rfl MH.g bH .nil pass0 (pa_cons (pe_ix ix_list (pv 2) pe_int (fun _ _ => rfl)) (pa_cons (pe_ix ix_list (pv 2) pe_int (fun _ _ => rfl)) (pa_cons pe_int (pa_cons pe_int pa_nil))))) pa_nil)) (pe_op op_add pe_int (pe_call GT r1 rfl mT kT bT .nil pass0 (pa_cons (pv 0) (pa_cons pe_int pa_nil))))) pa_nil))))
    (pss_cons (ps_set (i := 5) scRef5.nd rfl (Or.inl rfl) (pe_lst (pa_cons (pe_hd (X := (cxOf CX0 P w K mg base nRef5 "_law_refused_right" (defScope sRefused) f (.ref cc) A outer s H E).nox) (T := T) G HF TB hr rfl rfl memT uniT (lamS_by (sc := defScope sRefused) (by decide +kernel)) rfl (fun _ _ _ _ _ => rfl)
        (fun σ0 A2 o2 s2 H2 E2 f2 c2 hr2 cf => pe_at (pe_call (E := E2) GB hr2 rfl mB kB bB .nil (passes_call (takes_of rfl rfl rfl rfl) fun _ _ _ _ z => z) (pa_cons (pv 11) pa_nil)) fun _ _ h => h)) (pa_cons (pe_hd (X := (cxOf CX0 P w K mg base nRef5 "_law_refused_right" (defScope sRefused) f (.ref cc) A outer s H E).nox) (T := T) G HF TB hr rfl rfl memT uniT (lamS_by (sc := defScope sRefused) (by decide +kernel)) rfl (fun _ _ _ _ _ => rfl)
        (fun σ0 A2 o2 s2 H2 E2 f2 c2 hr2 cf => pe_at (pe_callR0 (E := E2) GO (hr2.mono (by decide)) kO rfl mO (passes_call (takes_of rfl rfl rfl rfl) fun _ _ _ _ z => z)) fun _ _ h => h)) pa_nil))))
    (pss_cons (ps_expr (pe_bm PySem.F.plainAttrs_list PySem.F.slot_list_extend PySem.F.type_list_extend mt_extend (pv 5) (pa_cons (pe_lst (pa_cons (pe_hd (X := (cxOf CX0 P w K mg base nRef5 "_law_refused_right" (defScope sRefused) f (.ref cc) A outer s H E).nox) (T := T) G HF TB hr rfl rfl memT uniT (lamS_by (sc := defScope sRefused) (by decide +kernel)) rfl (fun _ _ _ _ _ => rfl)
        (fun σ0 A2 o2 s2 H2 E2 f2 c2 hr2 cf => pe_at (pe_callR (E := E2) GO (hr2.mono (by decide)) kO rfl mO (passes_call (takes_of rfl rfl rfl rfl) fun _ _ _ _ z => z) (pa_cons (pv 12) (pa_cons (pv 11) pa_nil))) fun _ _ h => h)) (pa_cons (pe_hd (X := (cxOf CX0 P w K mg base nRef5 "_law_refused_right" (defScope sRefused) f (.ref cc) A outer s H E).nox) (T := T) G HF TB hr rfl rfl memT uniT (lamS_by (sc := defScope sRefused) (by decide +kernel)) rfl (fun _ _ _ _ _ => rfl)
        (fun σ0 A2 o2 s2 H2 E2 f2 c2 hr2 cf => pe_at (pe_callR (E := E2) GO (hr2.mono (by decide)) kO rfl mO (passes_call (takes_of rfl rfl rfl rfl) fun _ _ _ _ z => z) (pa_cons (pv 1) (pa_cons (pv 12) pa_nil))) fun _ _ h => h)) pa_nil))) pa_nil)))
    (pss_cons (ps_expr (pe_bm PySem.F.plainAttrs_list PySem.F.slot_list_extend PySem.F.type_list_extend mt_extend (pv 5) (pa_cons (pe_lst (pa_cons (pe_hd (X := (cxOf CX0 P w K mg base nRef5 "_law_refused_right" (defScope sRefused) f (.ref cc) A outer s H E).nox) (T := T) G HF TB hr rfl rfl memT uniT (lamS_by (sc := defScope sRefused) (by decide +kernel)) rfl (fun _ _ _ _ _ => rfl)
        (fun σ0 A2 o2 s2 H2 E2 f2 c2 hr2 cf => pe_at (pe_op (r := rOwn K CS .Add (spSAdd K C CH CS CW CU CM) E2) (op_own (op := .Add) (E := E2) MA AK.a.sf AK.a.nr GA (hr2.mono (by decide)) bA (passes_call (takes_of rfl rfl rfl rfl) fun _ _ _ _ z => z)) (pv 1) (pv 11)) fun _ _ h => h)) (pa_cons (pe_hd (X := (cxOf CX0 P w K mg base nRef5 "_law_refused_right" (defScope sRefused) f (.ref cc) A outer s H E).nox) (T := T) G HF TB hr rfl rfl memT uniT (lamS_by (sc := defScope sRefused) (by decide +kernel)) rfl (fun _ _ _ _ _ => rfl)
        (fun σ0 A2 o2 s2 H2 E2 f2 c2 hr2 cf => pe_at (pe_op (r := rOwn K CS .Add (spSAdd K C CH CS CW CU CM) E2) (op_own (op := .Add) (E := E2) MA AK.a.sf AK.a.nr GA (hr2.mono (by decide)) bA (passes_call (takes_of rfl rfl rfl rfl) fun _ _ _ _ z => z)) (pv 1) (pv 12)) fun _ _ h => h)) pa_nil))) pa_nil)))
    (pss_cons (ps_expr (pe_bm PySem.F.plainAttrs_list PySem.F.slot_list_extend PySem.F.type_list_extend mt_extend (pv 5) (pa_cons (pe_lst (pa_cons (pe_hd (X := (cxOf CX0 P w K mg base nRef5 "_law_refused_right" (defScope sRefused) f (.ref cc) A outer s H E).nox) (T := T) G HF TB hr rfl rfl memT uniT (lamS_by (sc := defScope sRefused) (by decide +kernel)) rfl (fun _ _ _ _ _ => rfl)
        (fun σ0 A2 o2 s2 H2 E2 f2 c2 hr2 cf => pe_at (pe_call (E := E2) GQ (hr2.mono (by decide)) rfl mQ kQ bQ .nil (passes_call (takes_of rfl rfl rfl rfl) fun _ _ _ _ z => z) (pa_cons (pv 11) (pa_cons pe_non pa_nil))) fun _ _ h => h)) (pa_cons (pe_hd (X := (cxOf CX0 P w K mg base nRef5 "_law_refused_right" (defScope sRefused) f (.ref cc) A outer s H E).nox) (T := T) G HF TB hr rfl rfl memT uniT (lamS_by (sc := defScope sRefused) (by decide +kernel)) rfl (fun _ _ _ _ _ => rfl)
        (fun σ0 A2 o2 s2 H2 E2 f2 c2 hr2 cf => pe_at (pe_call (E := E2) GQ (hr2.mono (by decide)) rfl mQ kQ bQ .nil (passes_call (takes_of rfl rfl rfl rfl) fun _ _ _ _ z => z) (pa_cons (pv 1) (pa_cons (pv 8) pa_nil))) fun _ _ h => h)) pa_nil))) pa_nil)))
    (pss_cons (ps_expr (pe_bm PySem.F.plainAttrs_list PySem.F.slot_list_append PySem.F.type_list_append mt_append (pv 5) (pa_cons (pe_hd (X := (cxOf CX0 P w K mg base nRef5 "_law_refused_right" (defScope sRefused) f (.ref cc) A outer s H E).nox) (T := T) G HF TB hr rfl rfl memT uniT (lamS_by (sc := defScope sRefused) (by decide +kernel)) rfl (fun _ _ _ _ _ => rfl)
        (fun σ0 A2 o2 s2 H2 E2 f2 c2 hr2 cf => pe_at (pe_call (E := E2) GQ (hr2.mono (by decide)) rfl mQ kQ bQ .nil (passes_call (takes_of rfl rfl rfl rfl) fun _ _ _ _ z => z) (pa_cons (pv 1) (pa_cons (pe_lst (pa_cons (pe_callB (r := rLenA K) (call_lenA rfl) (by rfl) G.len PySem.boot_len (pa_cons (pv 3) pa_nil)) (pa_cons (pe_callB (r := rLenA K) (call_lenA rfl) (by rfl) G.len PySem.boot_len (pa_cons (pv 3) pa_nil)) pa_nil))) pa_nil))) fun _ _ h => h)) pa_nil)))
    (pss_cons (ps_expr (pe_bm PySem.F.plainAttrs_list PySem.F.slot_list_extend PySem.F.type_list_extend mt_extend (pv 5) (pa_cons (pe_lst (pa_cons (pe_hd (X := (cxOf CX0 P w K mg base nRef5 "_law_refused_right" (defScope sRefused) f (.ref cc) A outer s H E).nox) (T := T) G HF TB hr rfl rfl memT uniT (lamS_by (sc := defScope sRefused) (by decide +kernel)) rfl (fun _ _ _ _ _ => rfl)
        (fun σ0 A2 o2 s2 H2 E2 f2 c2 hr2 cf => pe_at (pe_call (E := E2) GQ (hr2.mono (by decide)) rfl mQ kQ bQ .nil (passes_call (takes_of rfl rfl rfl rfl) fun _ _ _ _ z => z) (pa_cons (pv 1) (pa_cons (pe_lst (pa_cons (pe_un un_neg pe_int) pa_nil)) pa_nil))) fun _ _ h => h)) (pa_cons (pe_hd (X := (cxOf CX0 P w K mg base nRef5 "_law_refused_right" (defScope sRefused) f (.ref cc) A outer s H E).nox) (T := T) G HF TB hr rfl rfl memT uniT (lamS_by (sc := defScope sRefused) (by decide +kernel)) rfl (fun _ _ _ _ _ => rfl)
        (fun σ0 A2 o2 s2 H2 E2 f2 c2 hr2 cf => pe_at (pe_call (E := E2) GQ (hr2.mono (by decide)) rfl mQ kQ bQ .nil (passes_call (takes_of rfl rfl rfl rfl) fun _ _ _ _ z => z) (pa_cons (pv 1) (pa_cons (pe_lst (pa_cons pe_int (pa_cons pe_int pa_nil))) pa_nil))) fun _ _ h => h)) pa_nil))) pa_nil)))
    (pss_cons (ps_set (i := 6) scRef5.nd rfl (Or.inl rfl) (pe_lst (pa_cons (pe_tup (pa_cons pe_str (pa_cons pe_str pa_nil))) (pa_cons (pe_tup (pa_cons pe_str (pa_cons pe_str pa_nil))) (pa_cons (pe_tup (pa_cons pe_str (pa_cons pe_str pa_nil))) (pa_cons (pe_tup (pa_cons pe_str (pa_cons pe_str pa_nil))) (pa_cons (pe_tup (pa_cons pe_str (pa_cons pe_str pa_nil))) pa_nil)))))))
    (pss_cons (ps_set (i := 6) scRef5.nd rfl (Or.inl rfl) (pe_op op_cat (pv 6) (pe_lst (pa_cons (pe_tup (pa_cons pe_str (pa_cons pe_str pa_nil))) (pa_cons (pe_tup (pa_cons pe_str (pa_cons pe_str pa_nil))) (pa_cons (pe_tup (pa_cons pe_str (pa_cons pe_str pa_nil))) (pa_cons (pe_tup (pa_cons pe_str (pa_cons (pe_callB (r := rLenA K) (call_lenA rfl) (by rfl) G.len PySem.boot_len (pa_cons (pv 3) pa_nil)) pa_nil))) pa_nil)))))))
    (pss_cons (ps_set (i := 6) scRef5.nd rfl (Or.inl rfl) (pe_op op_cat (pv 6) (pe_lst (pa_cons (pe_tup (pa_cons pe_str (pa_cons (pe_un un_neg pe_int) pa_nil))) (pa_cons (pe_tup (pa_cons (pe_ifExp (pt_cmpR (op_neD hu64) (pv 3) (pe_lst pa_nil) (nomark _)) pe_str pe_str) (pa_cons pe_int pa_nil))) pa_nil)))))
    (pss_cons (ps_expr (pe_bm PySem.F.plainAttrs_list PySem.F.slot_list_append PySem.F.type_list_append mt_append (pv 5) (pa_cons (pe_hd (X := (cxOf CX0 P w K mg base nRef5 "_law_refused_right" (defScope sRefused) f (.ref cc) A outer s H E).nox) (T := T) G HF TB hr rfl rfl memT uniT (lamS_by (sc := defScope sRefused) (by decide +kernel)) rfl (fun _ _ _ _ _ => rfl)
        (fun σ0 A2 o2 s2 H2 E2 f2 c2 hr2 cf => pe_at (pe_callR (E := E2) GO (hr2.mono (by decide)) kO rfl mO (passes_call (takes_of rfl rfl rfl rfl) fun _ _ _ _ z => z) (pa_cons (pv 10) (pa_cons (pv 12) (pa_cons (pv 9) pa_nil)))) fun _ _ h => h)) pa_nil)))
    (pss_cons (ps_expr (pe_bm PySem.F.plainAttrs_list PySem.F.slot_list_extend PySem.F.type_list_extend mt_extend (pv 5) (pa_cons (pe_lst (pa_cons (pe_hd (X := (cxOf CX0 P w K mg base nRef5 "_law_refused_right" (defScope sRefused) f (.ref cc) A outer s H E).nox) (T := T) G HF TB hr rfl rfl memT uniT (lamS_by (sc := defScope sRefused) (by decide +kernel)) rfl (fun _ _ _ _ _ => rfl)
        (fun σ0 A2 o2 s2 H2 E2 f2 c2 hr2 cf => pe_at (pe_callR (E := E2) GO (hr2.mono (by decide)) kO rfl mO (passes_call (takes_of rfl rfl rfl rfl) fun _ _ _ _ z => z) (pa_cons (pv 10) (pa_cons (pv 9) pa_nil))) fun _ _ h => h)) (pa_cons (pe_hd (X := (cxOf CX0 P w K mg base nRef5 "_law_refused_right" (defScope sRefused) f (.ref cc) A outer s H E).nox) (T := T) G HF TB hr rfl rfl memT uniT (lamS_by (sc := defScope sRefused) (by decide +kernel)) rfl (fun _ _ _ _ _ => rfl)
        (fun σ0 A2 o2 s2 H2 E2 f2 c2 hr2 cf => pe_at (pe_op (r := rOwn K CS .Add (spSAdd K C CH CS CW CU CM) E2) (op_own (op := .Add) (E := E2) MA AK.a.sf AK.a.nr GA (hr2.mono (by decide)) bA (passes_call (takes_of rfl rfl rfl rfl) fun _ _ _ _ z => z)) (pv 10) (pv 9)) fun _ _ h => h)) pa_nil))) pa_nil)))
    (pss_cons (ps_set (i := 7) scRef5.nd rfl (Or.inl rfl) (pe_ifExp (pt_cmpR op_gt (pe_op op_add (pe_callB (call_lenO ML GL r2 bL pass0) (by rfl) G.len PySem.boot_len (pa_cons (pv 10) pa_nil)) (pe_callB (call_lenO ML GL r2 bL pass0) (by rfl) G.len PySem.boot_len (pa_cons (pv 9) pa_nil))) pe_int (nomark _)) (pe_tup (pa_cons pe_str (pa_cons pe_int pa_nil))) pe_non))
    (pss_one (ps_ret (pe_cmpR (op_eqD hu64) (pv 5) (pe_op op_cat (pv 6) (pe_lst (pa_cons (pe_tup (pa_cons pe_str (pa_cons pe_str pa_nil))) (pa_cons (pv 7) (pa_cons (pv 7) pa_nil))))) (nomark _))))))))))))))))))))), ?_⟩
  have sz : sizeLine = 16777216 := sizeLine_eq
  have nm := fun n hn => (dr n hn).nm
  obtain ⟨dx, ps, ph, pq, as, nas, h1, h2, h3, h4, h5, h6⟩ := id ha
  have at0 : ns[0]? = some (ns.getD 0 "") := getD_at (by omega)
  have at1 : ns[1]? = some (ns.getD 1 "") := getD_at (by omega)
  have in0 : ns.getD 0 "" ∈ ns := getD_in (by omega)
  have in1 : ns.getD 1 "" ∈ ns := getD_in (by omega)
  have ne01 : ns.getD 0 "" ≠ ns.getD 1 "" := fun e => absurd (getD_inj nd (by omega) (by omega) e) (by decide)
  have hk1 : HnOk ⟨ns.getD 0 "", ns.getD 1 "", 6, 12⟩ := ⟨nm _ in0, nm _ in1, ne01, (show (0 : Int) ≤ 6 by decide), (show (0 : Int) ≤ 12 by decide), (show (6 : Int).natAbs < 2 ^ 50 by decide), (show (12 : Int).natAbs < 2 ^ 50 by decide)⟩
  have hk2 : HnOk ⟨ns.getD 1 "", ns.getD 0 "", 0, 6⟩ := ⟨nm _ in1, nm _ in0, Ne.symm ne01, (show (0 : Int) ≤ 0 by decide), (show (0 : Int) ≤ 6 by decide), (show (0 : Int).natAbs < 2 ^ 50 by decide), (show (6 : Int).natAbs < 2 ^ 50 by decide)⟩
  -- odd
  refine seq_any (R := fun v H' => Keep p H H' ∧ Pen H' p c (n + 1) ∧ v ≠ .ref p ∧ OddV K H' v) (fun Q2 kq => ?_) ?_
  · refine ⟨_, rfl, _, rfl, _, rfl, a, CS, dx, _, _, rfl, h1, R.cl, R.nH, fs_h _ _ _, (by show 6 ≤ sizeLine; omega), fun l nl => ?_⟩
    have s1 := upd_new (o := .lst [V.non, .ref nm', .str "swap", .int 3, .ref ph, .bl true]) nl
    have hl : upd H l (.lst [V.non, .ref nm', .str "swap", .int 3, .ref ph, .bl true]) l = some (.lst [V.non, .ref nm', .str "swap", .int 3, .ref ph, .bl true]) := upd_same
    generalize upd H l (.lst [V.non, .ref nm', .str "swap", .int 3, .ref ph, .bl true]) = H1 at s1 hl ⊢
    refine ⟨p, c, l, _, _, rfl, .inl hl, (pn.ne nl).1.symm, (by show 0 < 6; decide), (by show 6 < 1000; decide), pn.same s1, by omega, fun i x H2 ex k2 pn2 => kq _ _ ⟨(theKeep s1).trans k2, pn2, ?_, ?_⟩⟩
    · match i, ex with
      | 0, ex => cases ex; exact fun z => nomatch z
      | 1, ex => cases ex; exact fun z => np (V.ref.inj z)
      | 2, ex => cases ex; exact fun z => nomatch z
      | 3, ex => cases ex; exact fun z => nomatch z
      | 4, ex => cases ex; obtain ⟨pcs, pt, pr, hpp, _⟩ := id pn; exact fun z => ne_of h3 hpp (fun z => nomatch z) (V.ref.inj z)
      | 5, ex => cases ex; exact fun z => nomatch z
      | i + 6, ex => exact nomatch ex
    obtain ⟨pcs, pt, pr, hpp, _⟩ := id (pn.same s1)
    match i, ex with
    | 0, ex => cases ex; exact ⟨"NoneType", by decide, .non⟩
    | 1, ex => cases ex; exact ⟨"list", by decide, .lst (k2 _ _ np (s1 _ _ hnm))⟩
    | 2, ex => cases ex; exact ⟨"str", by decide, .str _⟩
    | 3, ex => cases ex; exact ⟨"int", by decide, .int _⟩
    | 4, ex => cases ex; exact ⟨"tuple", by decide, .tup (k2 _ _ (ne_of (s1 _ _ h3) hpp (fun z => nomatch z)) (s1 _ _ h3))⟩
    | 5, ex => cases ex; exact ⟨"bool", by decide, .bl _⟩
    | i + 6, ex => exact nomatch ex
  rintro vo H1 ⟨k1, pn1, vop, odd1⟩
  have hnm1 := k1 _ _ np hnm
  -- bad
  refine seq_any (R := fun v H' => Keep p H1 H' ∧ Pen H' p c (n + 2) ∧ v ≠ .ref p ∧ BadV K H' v) (fun Q2 kq => ?_) ?_
  · refine ⟨_, rfl, _, rfl, fun dd ndd => ⟨upd_same, [(Sum.inl 0, .int 1)], rfl, (by show 1 ≤ 15; decide), ?_⟩⟩
    rw [upd_upd]
    have sd := upd_new (o := .dK (mergeK [] [((Sum.inl 0 : Key), V.int 1)])) ndd
    have ed : upd H1 dd (.dK (mergeK [] [((Sum.inl 0 : Key), V.int 1)])) dd = some (.dK (mergeK [] [((Sum.inl 0 : Key), V.int 1)])) := upd_same
    have pd := (pn1.ne ndd).1.symm
    generalize upd H1 dd (.dK (mergeK [] [((Sum.inl 0 : Key), V.int 1)])) = H2 at sd ed ⊢
    refine ⟨(by show 2 ≤ sizeLine; omega), fun l2 nl2 => ?_⟩
    have s2 := upd_new (o := .lst [V.int 0, .bl false]) nl2
    have e2 : upd H2 l2 (.lst [V.int 0, .bl false]) l2 = some (.lst [V.int 0, .bl false]) := upd_same
    have pl2 := ((pn1.same sd).ne nl2).1.symm
    generalize upd H2 l2 (.lst [V.int 0, .bl false]) = H3 at s2 e2 ⊢
    refine ⟨(by show 6 ≤ sizeLine; omega), fun l nl => ?_⟩
    have s3 := upd_new (o := .lst [V.non, .ref nm', .str "0", .int 3, .ref dd, .ref l2]) nl
    have e3 : upd H3 l (.lst [V.non, .ref nm', .str "0", .int 3, .ref dd, .ref l2]) l = some (.lst [V.non, .ref nm', .str "0", .int 3, .ref dd, .ref l2]) := upd_same
    have pn3 := (pn1.same sd).same s2
    have pl := (pn3.ne nl).1.symm
    generalize upd H3 l (.lst [V.non, .ref nm', .str "0", .int 3, .ref dd, .ref l2]) = H4 at s3 e3 ⊢
    have s14 := (sd.trans s2).trans s3
    refine ⟨p, c, l, _, _, rfl, .inl e3, pl, (by show 0 < 6; decide), (by show 6 < 1000; decide), pn3.same s3, by omega, fun i x H5 ex k5 pn5 => kq _ _ ⟨(theKeep s14).trans k5, pn5, ?_, ?_⟩⟩
    · match i, ex with
      | 0, ex => cases ex; exact fun z => nomatch z
      | 1, ex => cases ex; exact fun z => np (V.ref.inj z)
      | 2, ex => cases ex; exact fun z => nomatch z
      | 3, ex => cases ex; exact fun z => nomatch z
      | 4, ex => cases ex; exact fun z => pd (V.ref.inj z)
      | 5, ex => cases ex; exact fun z => pl2 (V.ref.inj z)
      | i + 6, ex => exact nomatch ex
    match i, ex with
    | 0, ex => cases ex; exact .inl (NotSeq.of .non (by simp))
    | 1, ex =>
      cases ex
      refine .inr ⟨nm', ns.map V.str, ns.map fun _ => false, rfl, k5 _ _ np (s14 _ _ hnm1), by rw [List.length_map]; omega, fun H' => ⟨by simp, fun j y ey => ?_⟩, ?_⟩
      · obtain ⟨z, ez, rfl⟩ := map_at ey
        exact ⟨false, by rw [List.getElem?_map, ez]; rfl, .inr ⟨rfl, NotInt.of (.str _) (by simp)⟩⟩
      · match ns, n2 with
        | x :: r, _ => rfl
    | 2, ex => cases ex; exact .inl (NotSeq.of (.str _) (by simp))
    | 3, ex => cases ex; exact .inl (NotSeq.of (.int _) (by simp))
    | 4, ex => cases ex; exact .inl (NotSeq.of (.dK (k5 _ _ pd (s3 _ _ (s2 _ _ ed)))) (by simp))
    | 5, ex =>
      cases ex
      refine .inr ⟨l2, _, [true, false], rfl, k5 _ _ pl2 (s3 _ _ e2), (by show 2 ≤ 1000; decide), fun H' => ⟨rfl, fun j y ey => ?_⟩, rfl⟩
      match j, ey with
      | 0, ey => cases ey; exact ⟨_, rfl, .inl ⟨rfl, _, rfl⟩⟩
      | 1, ey => cases ey; exact ⟨_, rfl, .inr ⟨rfl, NotInt.bl false⟩⟩
      | j + 2, ey => exact nomatch ey
    | i + 6, ex => exact nomatch ex
  rintro vb H2 ⟨k2, pn2, vbp, bad2⟩
  have k02 := k1.trans k2
  have hnm2 := k02 _ _ np hnm
  -- more
  refine seq_any (R := fun v H' => v = .str moreS ∧ H2 = H') (fun Q2 kq => kq _ _ ⟨rfl, rfl⟩) ?_
  rintro _ _ ⟨rfl, rfl⟩
  -- other
  refine seq_any (R := fun v H' => Keep p H2 H' ∧ Pen H' p c (n + 3) ∧ ∃ b ms, v = .ref b ∧ SwAt C CH CS H' b ms [] ∧ SwOk ms [] ∧ ms ≠ ns) (fun Q2 kq => ?_) ?_
  · refine ⟨_, rfl, cons_l (lst_l (cons_l (mk_emp (ms := ns.reverse) (fun Q' kk => ⟨_, rfl, nm', _, rfl, SqL.of hnm2, fun r nr => kk r _ (upd_new nr) (by rw [upd_same, List.map_reverse])⟩) (oth1 nd n2 n4 nm).1 fun b1 G1 s1 sw1 => ?_)))⟩
    refine cons_l (mk_emp (ms := ns ++ [moreS]) (fun Q' kk => ⟨_, rfl, _, rfl, (by show 1 ≤ sizeLine; omega), fun l nl => ?_⟩) (oth2 nd n2 n4 dr).1 fun b2 G2 s2 sw2 => ?_)
    · have hl : upd G1 l (.lst [V.str moreS]) l = some (.lst [V.str moreS]) := upd_same
      have sl := upd_new (o := .lst [V.str moreS]) nl
      generalize upd G1 l (.lst [V.str moreS]) = G1' at hl sl ⊢
      refine ⟨nm', l, ns.map V.str, [.str moreS], rfl, rfl, sl _ _ (s1 _ _ hnm2), hl, (by rw [List.length_map]; show ns.length + 1 ≤ sizeLine; omega), fun q nq => kk q _ (sl.trans (upd_new nq)) (by rw [upd_same, List.map_append]; rfl)⟩
    refine cons_l (mk_emp (ms := [ns.getD 0 "", moreS]) (fun Q' kk => ⟨_, rfl, 1, rfl, nm', _, rfl, SqL.of (s2 _ _ (s1 _ _ hnm2)), fun l0 nl0 => ⟨_, rfl, (by show 1 ≤ sizeLine; omega), fun l nl => ?_⟩⟩) (oth3 nd n2 dr).1 fun b3 G3 s3 sw3 => ?_)
    · rw [cut1 n2] at nl ⊢
      have s0 := upd_new (o := .lst [V.str (ns.getD 0 "")]) nl0
      have h0 : upd G2 l0 (.lst [V.str (ns.getD 0 "")]) l0 = some (.lst [V.str (ns.getD 0 "")]) := upd_same
      generalize upd G2 l0 (.lst [V.str (ns.getD 0 "")]) = G2a at h0 s0 nl ⊢
      have hl : upd G2a l (.lst [V.str moreS]) l = some (.lst [V.str moreS]) := upd_same
      have sl := upd_new (o := .lst [V.str moreS]) nl
      generalize upd G2a l (.lst [V.str moreS]) = G2b at hl sl ⊢
      refine ⟨l0, l, _, _, rfl, rfl, sl _ _ h0, hl, (by show 1 + 1 ≤ sizeLine; omega), fun q nq => kk q _ ((s0.trans sl).trans (upd_new nq)) (by rw [upd_same]; rfl)⟩
    refine ⟨(by show 3 ≤ sizeLine; omega), fun l nl => ?_⟩
    have s4 := upd_new (o := .lst [V.ref b1, .ref b2, .ref b3]) nl
    have e4 : upd G3 l (.lst [V.ref b1, .ref b2, .ref b3]) l = some (.lst [V.ref b1, .ref b2, .ref b3]) := upd_same
    have g3 := (s1.trans s2).trans s3
    have pl := ((pn2.same g3).ne nl).1.symm
    generalize upd G3 l (.lst [V.ref b1, .ref b2, .ref b3]) = G4 at s4 e4 ⊢
    have pn4 := (pn2.same g3).same s4
    refine ⟨p, c, l, _, _, rfl, .inl e4, pl, (by show 0 < 3; decide), (by show 3 < 1000; decide), pn4, by omega, fun i x G5 ex k5 pn5 => kq _ _ ⟨(theKeep (g3.trans s4)).trans k5, pn5, ?_⟩⟩
    match i, ex with
    | 0, ex => cases ex; exact ⟨b1, _, rfl, (sw1.same ((s2.trans s3).trans s4)).keepP pn4 k5, oth1 nd n2 n4 nm⟩
    | 1, ex => cases ex; exact ⟨b2, _, rfl, (sw2.same (s3.trans s4)).keepP pn4 k5, oth2 nd n2 n4 dr⟩
    | 2, ex => cases ex; exact ⟨b3, _, rfl, (sw3.same s4).keepP pn4 k5, oth3 nd n2 dr⟩
    | i + 3, ex => exact nomatch ex
  rintro _ H3 ⟨k3, pn3, b, ms, rfl, swb3, okb, nemn⟩
  have k03 := k02.trans k3
  have hnm3 := k03 _ _ np hnm
  show tSeq _ _ _ [some (V.ref p), some (.ref a), some (.ref nm'), some (.ref rw), some (.str moreS), none, none, none, some vb, none, none, some vo, some (.ref b)] H3
  -- long
  refine seq_any (R := fun v H' => Keep p H3 H' ∧ Pen H' p c (n + 4) ∧ ∃ lg hl, v = .ref lg ∧ SwAt C CH CS H' lg ns hl ∧ SwOk ns hl ∧ 39 ≤ hl.length ∧ hl.length ≤ 40) (fun Q2 kq => ?_) ?_
  · refine mk_many (ns := ns) (j := 2) rfl fun Q' kk => ?_
    refine rep_draw (C := C) (CH := CH) (h := ⟨ns.getD 0 "", ns.getD 1 "", 6, 12⟩) rfl pn3 (by omega) np hnm3 (by decide) (by decide) (fun Q'' kh => ?_) fun l j G hj kG pnG hG as hl hh => ?_
    · exact mk_h (fun Q3 z => ⟨_, rfl, nm', _, _, _, rfl, rfl, SqL.of hnm3, atI_nat (j := 0) (by rw [List.getElem?_map, at0]; rfl), _, rfl, nm', _, _, _, rfl, rfl, SqL.of hnm3, atI_nat (j := 1) (by rw [List.getElem?_map, at1]; rfl), z⟩) hk1 (.inr ⟨1, rfl, (show (6 : Int) = 6 * 1 by decide)⟩) (.inr ⟨2, rfl, (show (12 : Int) = 6 * 2 by decide)⟩) kh
    · exact kk l as _ G hG hl hh (rep_ok n2 n4 nd nm hk1 in0 in1 j) (by rw [List.length_replicate]; omega) fun b' G2 s2 sw => kq _ _ ⟨kG.trans (theKeep s2), pnG.same s2, b', _, rfl, sw, rep_ok n2 n4 nd nm hk1 in0 in1 j, by rw [List.length_replicate]; omega, by rw [List.length_replicate]; omega⟩
  rintro _ H4 ⟨k4, pn4, lg, hl, rfl, swl4, okl, l39, l40⟩
  have k04 := k03.trans k4
  have hnm4 := k04 _ _ np hnm
  show tSeq _ _ _ [some (V.ref p), some (.ref a), some (.ref nm'), some (.ref rw), some (.str moreS), none, none, none, some vb, none, some (.ref lg), some vo, some (.ref b)] H4
  -- last
  refine seq_any (R := fun v H' => Keep p H4 H' ∧ Pen H' p c (n + 5) ∧ ∃ lt ht, v = .ref lt ∧ SwAt C CH CS H' lt ns ht ∧ SwOk ns ht ∧ 1 ≤ ht.length ∧ ht.length ≤ 2) (fun Q2 kq => ?_) ?_
  · refine mk_many (ns := ns) (j := 2) rfl fun Q' kk => ?_
    refine rep_draw (C := C) (CH := CH) (h := ⟨ns.getD 1 "", ns.getD 0 "", 0, 6⟩) rfl pn4 (by omega) np hnm4 (by decide) (by decide) (fun Q'' kh => ?_) fun l j G hj kG pnG hG as hl hh => ?_
    · exact mk_h (fun Q3 z => ⟨_, rfl, nm', _, _, _, rfl, rfl, SqL.of hnm4, atI_nat (j := 1) (by rw [List.getElem?_map, at1]; rfl), _, rfl, nm', _, _, _, rfl, rfl, SqL.of hnm4, atI_nat (j := 0) (by rw [List.getElem?_map, at0]; rfl), z⟩) hk2 (.inr ⟨0, rfl, (show (0 : Int) = 6 * 0 by decide)⟩) (.inr ⟨1, rfl, (show (6 : Int) = 6 * 1 by decide)⟩) kh
    · exact kk l as _ G hG hl hh (rep_ok n2 n4 nd nm hk2 in1 in0 j) (by rw [List.length_replicate]; omega) fun b' G2 s2 sw => kq _ _ ⟨kG.trans (theKeep s2), pnG.same s2, b', _, rfl, sw, rep_ok n2 n4 nd nm hk2 in1 in0 j, by rw [List.length_replicate]; omega, by rw [List.length_replicate]; omega⟩
  rintro _ HA ⟨k5, pn5, lt, ht, rfl, swt, okt, t1, t2⟩
  have k05 := k04.trans k5
  have tbA : Tabs T HA := pn.tabs k05 tb
  have hnmA := k05 _ _ np hnm
  have swa := ha.keepP pn k05
  have swb := (swb3.keepP pn3 k4).keepP pn4 k5
  have swl := swl4.keepP pn4 k5
  have rwA := rwl.keep pn rp k05
  have oddA := OddV.keepP pn2 ((k3.trans k4).trans k5) vop (OddV.keepP pn1 k2 vop odd1)
  have badA := BadV.keepP pn2 ((k3.trans k4).trans k5) vbp bad2
  have sok := sw_ok n2 (by omega) nd nm ok
  have hs40 : (rs.map (mkH ns)).length ≤ 40 := by rw [List.length_map]; omega
  have hs50 : (rs.map (mkH ns)).length ≤ 50 := by omega
  have NS : ∀ {H1 : Hp}, ExtN HA H1 → NotSw K CS H1 vo := fun x => OddV.notSw O (oddA.extN x)
  show tSeq _ _ _ [some (V.ref p), some (.ref a), some (.ref nm'), some (.ref rw), some (.str moreS), none, none, none, some vb, some (.ref lt), some (.ref lg), some vo, some (.ref b)] HA
  refine hd_new (oA := some (.str "swap", .str "swap")) (oB := some (.str "swap", .str "swaps")) tbA
    (one_err (Cx := CW) hw_w fun H1 x1 E1 Q1 hE => ⟨_, rfl, vo, rfl, .inr ⟨NS x1, hE⟩⟩)
    (one_err (Cx := CW) hw_w fun H1 x1 E1 Q1 hE => ⟨[], rfl, (by show 0 ≤ sizeLine; omega), fun p np => ⟨p, [], rfl, upd_same, by simp, .inl ⟨[], All2.nil, .inl rfl, fun d H' z => hE d H' (z.from (upd_new np))⟩⟩⟩) fun L B1 hd1 => ?_
  show tSeq _ _ _ [some (V.ref p), some (.ref a), some (.ref nm'), some (.ref rw), some (.str moreS), some (.ref L), none, none, some vb, some (.ref lt), some (.ref lg), some vo, some (.ref b)] B1
  refine hd_ext (K := K) (oA := some (.str "swap", .str "swaps")) (oB := some (.str "unlike", .str "strangers")) hd1 (by decide) rfl
    (one_err (Cx := CW) hw_w fun H1 x1 E1 Q1 hE => ⟨_, rfl, _, rfl, [.ref b, vo], rfl, (by show 2 ≤ sizeLine; omega), fun p np => ⟨p, _, rfl, upd_same, (by show 2 ≤ 100; decide), .inl ⟨[true, false], (All2.nil.snoc (.inl ⟨rfl, b, ms, [], rfl, (swb.extN x1).same (upd_new np)⟩)).snoc (.inr ⟨rfl, (NS x1).same (upd_new np)⟩), .inr rfl, fun d H' z => hE d H' (z.from (upd_new np))⟩⟩⟩)
    (one_err (Cx := CU) hw_u fun H1 x1 E1 Q1 hE => ⟨_, rfl, _, rfl, [.ref a, .ref b], rfl, (by show 2 ≤ sizeLine; omega), fun p np => ⟨p, _, rfl, upd_same, (by show 2 ≤ 100; decide), .inr ⟨[a, b], [(ns, rs.map (mkH ns)), (ms, [])], ns, rfl, swaps2 ((swa.extN x1).same (upd_new np)) ((swb.extN x1).same (upd_new np)), fun q hq => by
      simp at hq
      rcases hq with rfl | rfl
      · exact ⟨sok, hs40⟩
      · exact ⟨okb, by simp⟩, rfl, .inl ⟨⟨(ms, []), by simp, nemn⟩, fun d H' z => hE d H' (z.from (upd_new np))⟩⟩⟩⟩) fun B2 hd2 => ?_
  obtain ⟨ax, _, _, _, _, _, ha1, _⟩ := id swa
  obtain ⟨bx, _, _, _, _, _, hb1, _⟩ := id swb
  refine hd_ext (K := K) (oA := some (.str "swap", .str "other")) (oB := some (.str "unlike", .str "strangers")) hd2 (by decide) rfl
    (one_err (Cx := CW) hw_w fun H1 x1 E1 Q1 hE => ⟨_, rfl, _, rfl, a, ax, _, rfl, x1 _ _ ha1 (fun _ z => nomatch z), OddV.right O (oddA.extN x1), a, vo, ns, _, rfl, swa.extN x1, sok, hs50, .inl ⟨NS x1, hE⟩⟩)
    (one_err (Cx := CU) hw_u fun H1 x1 E1 Q1 hE => ⟨_, rfl, _, rfl, a, ax, _, rfl, x1 _ _ ha1 (fun _ z => nomatch z), .inl ⟨b, bx, _, rfl, x1 _ _ hb1 (fun _ z => nomatch z)⟩, a, .ref b, ns, _, rfl, swa.extN x1, sok, hs50, .inr ⟨b, ms, [], rfl, swb.extN x1, okb, by simp, fun _ => hE, fun e => absurd e.symm nemn⟩⟩) fun B3 hd3 => ?_
  refine hd_ext (K := K) (oA := some (.str "swap", .str "swap")) (oB := some (.str "done", .str "done")) hd3 (by decide) rfl
    (one_err (Cx := CW) hw_w fun H1 x1 E1 Q1 hE => ⟨_, rfl, vo, .non, rfl, .inl ⟨NS x1, hE⟩⟩)
    (one_err (Cx := CD) hw_d fun H1 x1 E1 Q1 hE => ⟨_, rfl, _, rfl, .ref a, vb, rfl, .inr ⟨a, ns, _, rfl, swa.extN x1, sok, hs40, .inl ⟨(badA.extN x1).imp id fun ⟨l, xs, bs, e, hl, ll, ib, al⟩ => ⟨l, xs, bs, e, .inl hl, ll, ib H1, al⟩, hE⟩⟩⟩) fun B4 hd4 => ?_
  obtain ⟨ras, hrw, ral⟩ := id rwA
  have lr : (ras.map V.ref).length = rs.length := by rw [List.length_map]; exact ral.1
  refine hd_app (K := K) (oA := some (.str "hand", .int rs.length)) hd4 (by decide) rfl
    (one_err (Cx := CI) hw_i fun H1 x1 E1 Q1 hE => ⟨_, rfl, _, rfl, rw, _, rfl, .inl (SqL.of (x1 _ _ hrw (fun _ z => nomatch z))), _, rfl, rw, _, rfl, .inl (SqL.of (x1 _ _ hrw (fun _ z => nomatch z))), (by show 2 ≤ sizeLine; omega), fun l nl => by
      rw [lr]
      have s1 := upd_new (o := .lst [V.int rs.length, .int rs.length]) nl
      have bad : ¬ InM ((rs.map (mkH ns)).length : Nat) (rs.length : Int) := by rw [List.length_map]; exact fun z => absurd z.2 (by omega)
      refine ⟨.ref a, .ref l, rfl, .inr ⟨a, ns, _, rfl, (swa.extN x1).same s1, sok, hs40, .inr ⟨l, [rs.length, rs.length], rfl, .inl upd_same, (by show 2 ≤ 1000; decide), fun i k ek _ _ d H' z => ?_, fun al => absurd (al _ List.mem_cons_self) bad, fun al => absurd (al _ List.mem_cons_self) bad⟩⟩⟩
      have e : k = rs.length := by
        have := List.mem_of_getElem? ek
        simpa using this
      exact hE d H' (e ▸ z.from s1)⟩) fun B5 hd5 => ?_
  refine hd_ext (K := K) (oA := some (.str "hand", .int (-1))) (oB := some (.str (if rs = [] then "hand" else "twice"), .int 0)) hd5 (by show 9 ≤ 100; decide) rfl
    (one_err (Cx := CI) hw_i fun H1 x1 E1 Q1 hE => ⟨_, rfl, 1, rfl, (by show 1 ≤ sizeLine; omega), fun l nl => by
      have s1 := upd_new (o := .lst [V.int (-1)]) nl
      have bad : ¬ InM ((rs.map (mkH ns)).length : Nat) (-1) := fun z => absurd z.1 (by decide)
      refine ⟨.ref a, .ref l, rfl, .inr ⟨a, ns, _, rfl, (swa.extN x1).same s1, sok, hs40, .inr ⟨l, [-1], rfl, .inl upd_same, (by show 1 ≤ 1000; decide), fun i k ek _ _ d H' z => ?_, fun al => absurd (al _ List.mem_cons_self) bad, fun al => absurd (al _ List.mem_cons_self) bad⟩⟩⟩
      have e : k = -1 := by
        have := List.mem_of_getElem? ek
        simpa using this
      exact hE d H' (e ▸ z.from s1)⟩)
    ?_ fun B6 hd6 => ?_
  · by_cases er : rs = []
    · rw [if_pos er]
      refine one_err (Cx := CI) hw_i fun H1 x1 E1 Q1 hE => ⟨_, rfl, (by show 2 ≤ sizeLine; omega), fun l nl => ?_⟩
      have s1 := upd_new (o := .lst [V.int 0, .int 0]) nl
      have bad : ¬ InM ((rs.map (mkH ns)).length : Nat) 0 := by rw [er]; exact fun z => absurd z.2 (by simp)
      refine ⟨.ref a, .ref l, rfl, .inr ⟨a, ns, _, rfl, (swa.extN x1).same s1, sok, hs40, .inr ⟨l, [0, 0], rfl, .inl upd_same, (by show 2 ≤ 1000; decide), fun i k ek _ _ d H' z => ?_, fun al => absurd (al _ List.mem_cons_self) bad, fun al => absurd (al _ List.mem_cons_self) bad⟩⟩⟩
      have e : k = 0 := by
        have := List.mem_of_getElem? ek
        simpa using this
      exact hE d H' (e ▸ z.from s1)
    · rw [if_neg er]
      refine one_err (Cx := CT) hw_t fun H1 x1 E1 Q1 hE => ⟨_, rfl, (by show 2 ≤ sizeLine; omega), fun l nl => ?_⟩
      have s1 := upd_new (o := .lst [V.int 0, .int 0]) nl
      have lpos : 0 < rs.length := List.length_pos_iff.mpr er
      have good : InM ((rs.map (mkH ns)).length : Nat) 0 := by rw [List.length_map]; exact ⟨by decide, by omega⟩
      refine ⟨.ref a, .ref l, rfl, .inr ⟨a, ns, _, rfl, (swa.extN x1).same s1, sok, hs40, .inr ⟨l, [0, 0], rfl, .inl upd_same, (by show 2 ≤ 1000; decide), fun i k ek bad _ d H' z => ?_, fun _ i k dup d H' z => ?_, fun _ nd => absurd nd (by decide)⟩⟩⟩
      · have e : k = 0 := by
          have := List.mem_of_getElem? ek
          simpa using this
        exact absurd (e ▸ good) bad
      · have e : k = 0 := by
          have := List.mem_of_getElem? dup.1
          simpa using this
        exact hE d H' (e ▸ z.from s1)
  -- due
  have dC : ∀ {x : V} {σ : L2.St} {H : Hp} (Q' : VK), Q' x H → tC x σ H Q' := fun _ z => z
  dsimp only
  refine seq_any (R := fun v H' => Same B6 H' ∧ ∃ LD vs, v = .ref LD ∧ H' LD = some (.lst vs) ∧ All2 (It H') vs [some (.str "swap", .str "swap"), some (.str "swap", .str "swaps"), some (.str "swap", .str "swaps"), some (.str "unlike", .str "strangers"), some (.str "swap", .str "other")]) (fun Q2 kq => ?_) ?_
  · refine lst_l (cons_l (tup_l (x := .str "swap") (y := .str "swap") dC dC fun t1 G1 s1 i1 => cons_l (tup_l (x := .str "swap") (y := .str "swaps") dC dC fun t2 G2 s2 i2 => cons_l (tup_l (x := .str "swap") (y := .str "swaps") dC dC fun t3 G3 s3 i3 => cons_l (tup_l (x := .str "unlike") (y := .str "strangers") dC dC fun t4 G4 s4 i4 => cons_l (tup_l (x := .str "swap") (y := .str "other") dC dC fun t5 G5 s5 i5 => ⟨(by show 5 ≤ sizeLine; omega), fun l nl => kq _ _ ⟨?_, l, _, rfl, upd_same, ?_⟩⟩))))))
    · exact ((((s1.trans s2).trans s3).trans s4).trans s5).trans (upd_new nl)
    · have u := upd_new (o := .lst [V.ref t1, .ref t2, .ref t3, .ref t4, .ref t5]) nl
      exact All2.snoc (xs := [_, _, _, _]) (ys := [_, _, _, _]) (All2.snoc (xs := [_, _, _]) (ys := [_, _, _]) (All2.snoc (xs := [_, _]) (ys := [_, _]) (All2.snoc (xs := [_]) (ys := [_]) (All2.snoc (xs := []) (ys := []) All2.nil (i1.same ((((s2.trans s3).trans s4).trans s5).trans u))) (i2.same (((s3.trans s4).trans s5).trans u))) (i3.same ((s4.trans s5).trans u))) (i4.same (s5.trans u))) (i5.same u)
  rintro _ B7 ⟨s7, L7, v7, rfl, e7, al7⟩
  show tSeq _ _ _ [some (V.ref p), some (.ref a), some (.ref nm'), some (.ref rw), some (.str moreS), some (.ref L), some (.ref L7), none, some vb, some (.ref lt), some (.ref lg), some vo, some (.ref b)] B7
  have hd7 := hd6.same s7
  have hrw7 := hd7.ext _ _ hrw (fun _ z => nomatch z)
  refine seq_any (R := fun v H' => Same B7 H' ∧ ∃ LD vs, v = .ref LD ∧ H' LD = some (.lst vs) ∧ All2 (It H') vs ([some (.str "swap", .str "swap"), some (.str "swap", .str "swaps"), some (.str "swap", .str "swaps"), some (.str "unlike", .str "strangers"), some (.str "swap", .str "other")] ++ [some (.str "unlike", .str "strangers"), some (.str "swap", .str "swap"), some (.str "done", .str "done"), some (.str "hand", .int rs.length)])) (fun Q2 kq => ?_) ?_
  · refine ⟨_, rfl, lst_l (cons_l (tup_l (x := .str "unlike") (y := .str "strangers") dC dC fun t1 G1 s1 i1 => cons_l (tup_l (x := .str "swap") (y := .str "swap") dC dC fun t2 G2 s2 i2 => cons_l (tup_l (x := .str "done") (y := .str "done") dC dC fun t3 G3 s3 i3 => cons_l (tup_l (x := .str "hand") (y := .int rs.length) dC (fun Q' z => ⟨_, rfl, rw, _, rfl, .inl (SqL.of (((s1.trans s2).trans s3) _ _ hrw7)), by rw [lr]; exact z⟩) fun t4 G4 s4 i4 => ⟨(by show 4 ≤ sizeLine; omega), fun l nl => ?_⟩)))))⟩
    have g4 := ((s1.trans s2).trans s3).trans s4
    have u := upd_new (o := .lst [V.ref t1, .ref t2, .ref t3, .ref t4]) nl
    have hl : upd G4 l (.lst [V.ref t1, .ref t2, .ref t3, .ref t4]) l = some (.lst [V.ref t1, .ref t2, .ref t3, .ref t4]) := upd_same
    generalize upd G4 l (.lst [V.ref t1, .ref t2, .ref t3, .ref t4]) = G5 at u hl ⊢
    have l7 := al7.1
    refine ⟨L7, l, v7, _, rfl, rfl, u _ _ (g4 _ _ e7), hl, (by show v7.length + 4 ≤ sizeLine; rw [l7]; show 5 + 4 ≤ sizeLine; omega), fun q nq => kq _ _ ⟨(g4.trans u).trans (upd_new nq), q, _, rfl, upd_same, ?_⟩⟩
    have w := upd_new (o := .lst (v7 ++ [V.ref t1, .ref t2, .ref t3, .ref t4])) nq
    exact All2.app (al7.mono fun _ _ z => It.same ((g4.trans u).trans w) z) (All2.snoc (xs := [_, _, _]) (ys := [_, _, _]) (All2.snoc (xs := [_, _]) (ys := [_, _]) (All2.snoc (xs := [_]) (ys := [_]) (All2.snoc (xs := []) (ys := []) All2.nil (i1.same ((((s2.trans s3).trans s4).trans u).trans w))) (i2.same (((s3.trans s4).trans u).trans w))) (i3.same ((s4.trans u).trans w))) (i4.same (u.trans w)))
  rintro _ B8 ⟨s8, L8, v8, rfl, e8, al8⟩
  show tSeq _ _ _ [some (V.ref p), some (.ref a), some (.ref nm'), some (.ref rw), some (.str moreS), some (.ref L), some (.ref L8), none, some vb, some (.ref lt), some (.ref lg), some vo, some (.ref b)] B8
  have hd8 := hd7.same s8
  have hrw8 := hd8.ext _ _ hrw (fun _ z => nomatch z)
  obtain ⟨vL, eL, alL⟩ := hd8.l
  have ral8 : All2 (RwAt B8) ras rs := ral.mono fun _ _ z => hd8.ext _ _ z (fun _ z => nomatch z)
  refine seq_any (R := fun v H' => Same B8 H' ∧ ∃ LD vs, v = .ref LD ∧ LD ≠ L ∧ H' LD = some (.lst vs) ∧ All2 (It H') vs (([some (.str "swap", .str "swap"), some (.str "swap", .str "swaps"), some (.str "swap", .str "swaps"), some (.str "unlike", .str "strangers"), some (.str "swap", .str "other")] ++ [some (.str "unlike", .str "strangers"), some (.str "swap", .str "swap"), some (.str "done", .str "done"), some (.str "hand", .int rs.length)]) ++ [some (.str "hand", .int (-1)), some (.str (if rs = [] then "hand" else "twice"), .int 0)])) (fun Q2 kq => ?_) ?_
  · refine ⟨_, rfl, lst_l (cons_l (tup_l (x := .str "hand") (y := .int (-1)) dC (fun Q' z => ⟨1, rfl, z⟩) fun t1 G1 s1 i1 => cons_l ?_))⟩
    refine ⟨_, rfl, (by show 0 ≤ sizeLine; omega), fun e0 ne0 => ?_⟩
    have s2 := upd_new (o := .lst []) ne0
    have he0 : upd G1 e0 (.lst []) e0 = some (.lst []) := upd_same
    generalize upd G1 e0 (.lst []) = G2 at s2 he0 ⊢
    have s12 := s1.trans s2
    refine ⟨.list (rs.map rowD), .list [], .lst (SqL.of (s12 _ _ hrw8)) (rows_dp (ral8.mono fun _ _ z => s12 _ _ z)), .lst (SqL.of he0) .nil, rows_sh rs, sh_lI [], !decide (rs = []), by rw [eqv_nil]; simp, ?_⟩
    have l8 := al8.1
    have key : ∀ (x : Str), x = (if rs = [] then ("hand" : Str) else ("twice" : Str)) → ∀ t2, G2 t2 = none → ∀ l, upd G2 t2 (.tup [V.str x, .int 0]) l = none → ∀ q, upd (upd G2 t2 (.tup [V.str x, .int 0])) l (.lst [V.ref t1, .ref t2]) q = none →
        (upd (upd G2 t2 (.tup [V.str x, .int 0])) l (.lst [V.ref t1, .ref t2])) L8 = some (.lst v8) ∧ Q2 (.ref q) (upd (upd (upd G2 t2 (.tup [V.str x, .int 0])) l (.lst [V.ref t1, .ref t2])) q (.lst (v8 ++ [V.ref t1, .ref t2]))) := fun x ex t2 nt2 l nl q nq => by
      have s3 := upd_new (o := .tup [V.str x, .int 0]) nt2
      have i2 : It (upd G2 t2 (.tup [V.str x, .int 0])) (.ref t2) (some (.str (if rs = [] then "hand" else "twice"), .int 0)) := ⟨t2, rfl, by rw [← ex]; exact upd_same⟩
      generalize upd G2 t2 (.tup [V.str x, .int 0]) = G3 at s3 i2 nl nq ⊢
      have s4 := upd_new (o := .lst [V.ref t1, .ref t2]) nl
      generalize upd G3 l (.lst [V.ref t1, .ref t2]) = G4 at s4 nq ⊢
      have s14 := (s12.trans s3).trans s4
      have s5 := upd_new (o := .lst (v8 ++ [V.ref t1, .ref t2])) nq
      refine ⟨s14 _ _ e8, kq _ _ ⟨s14.trans s5, q, _, rfl, fun z => ?_, upd_same, ?_⟩⟩
      · rw [z, s14 _ _ eL] at nq; cases nq
      · exact All2.app (al8.mono fun _ _ z => It.same (s14.trans s5) z) (All2.snoc (xs := [_]) (ys := [_]) (All2.snoc (xs := []) (ys := []) All2.nil (i1.same (((s2.trans s3).trans s4).trans s5))) (i2.same (s4.trans s5)))
    have two : 2 ≤ sizeLine := by omega
    have l11 : v8.length + 2 ≤ sizeLine := by rw [l8]; show 9 + 2 ≤ sizeLine; omega
    by_cases er : rs = []
    · rw [decide_eq_true er]
      exact iteF ⟨two, fun t2 nt2 => ⟨two, fun l nl => ⟨L8, l, v8, _, rfl, rfl, by
        have u := (upd_new (o := .tup [V.str "hand", .int 0]) nt2).trans (upd_new (o := .lst [V.ref t1, .ref t2]) nl)
        exact u _ _ (s12 _ _ e8), upd_same, l11, fun q nq => (key "hand" (by rw [if_pos er]) t2 nt2 l nl q nq).2⟩⟩⟩
    · rw [decide_eq_false er]
      exact iteT ⟨two, fun t2 nt2 => ⟨two, fun l nl => ⟨L8, l, v8, _, rfl, rfl, by
        have u := (upd_new (o := .tup [V.str "twice", .int 0]) nt2).trans (upd_new (o := .lst [V.ref t1, .ref t2]) nl)
        exact u _ _ (s12 _ _ e8), upd_same, l11, fun q nq => (key "twice" (by rw [if_neg er]) t2 nt2 l nl q nq).2⟩⟩⟩
  rintro _ B9 ⟨s9, L9, v9, rfl, n9, e9, al9⟩
  show tSeq _ _ _ [some (V.ref p), some (.ref a), some (.ref nm'), some (.ref rw), some (.str moreS), some (.ref L), some (.ref L9), none, some vb, some (.ref lt), some (.ref lg), some vo, some (.ref b)] B9
  obtain ⟨hdB, xB⟩ := (hd8.same s9).rebase
  have eL9 := s9 _ _ eL
  have swlB := swl.extN xB
  have swtB := swt.extN xB
  have swbB := swb.extN xB
  have okl' : hl.length ≤ 40 := l40
  refine hd_app (K := K) (oA := some (.str "unlike", .str "strangers")) hdB (by show 11 ≤ 100; decide) rfl
    (one_err (Cx := CU) hw_u fun H1 x1 E1 Q1 hE => ⟨_, rfl, _, rfl, _, rfl, [.ref lg, .ref b, .ref lt], rfl, (by show 3 ≤ sizeLine; omega), fun p np => ⟨p, _, rfl, upd_same, (by show 3 ≤ 100; decide), .inr ⟨[lg, b, lt], [(ns, hl), (ms, []), (ns, ht)], ns, rfl, swaps3 ((swlB.extN x1).same (upd_new np)) ((swbB.extN x1).same (upd_new np)) ((swtB.extN x1).same (upd_new np)), fun q hq => by
      simp at hq
      rcases hq with rfl | rfl | rfl
      · exact ⟨okl, l40⟩
      · exact ⟨okb, by simp⟩
      · exact ⟨okt, (show ht.length ≤ 40 by omega)⟩, rfl, .inl ⟨⟨(ms, []), by simp, nemn⟩, fun d H' z => hE d H' (z.from (upd_new np))⟩⟩⟩⟩) fun B10 hd10 => ?_
  obtain ⟨lx, _, _, _, _, _, hl1, _⟩ := id swlB
  obtain ⟨tx, _, _, _, _, _, ht1, _⟩ := id swtB
  have all1 : ∀ q ∈ [(ns, hl), (ns, ht)], SwOk q.1 q.2 ∧ q.2.length ≤ 40 := fun q hq => by
    simp at hq
    rcases hq with rfl | rfl
    · exact ⟨okl, l40⟩
    · exact ⟨okt, (show ht.length ≤ 40 by omega)⟩
  have all2 : ∀ q ∈ [(ns, hl), (ns, ht)], q.1 = ns := fun q hq => by
    simp at hq
    rcases hq with rfl | rfl <;> rfl
  have fl : ([(ns, hl), (ns, ht)].flatMap Prod.snd) = hl ++ ht := by simp
  refine hd_ext (K := K) (oA := if 40 < hl.length + ht.length then some (.str "hands", .int 40) else none) (oB := if 40 < hl.length + ht.length then some (.str "hands", .int 40) else none) hd10 (by show 12 ≤ 100; decide) rfl ?_ ?_ fun B11 hd11 => ?_
  · by_cases big : 40 < hl.length + ht.length
    · rw [if_pos big]
      exact one_err (Cx := CM) (fs := fTooMany) hw_m fun H1 x1 E1 Q1 hE => ⟨_, rfl, _, rfl, [.ref lg, .ref lt], rfl, (by show 2 ≤ sizeLine; omega), fun p np => ⟨p, _, rfl, upd_same, (by show 2 ≤ 100; decide), .inr ⟨[lg, lt], [(ns, hl), (ns, ht)], ns, rfl, swaps2 ((swlB.extN x1).same (upd_new np)) ((swtB.extN x1).same (upd_new np)), all1, rfl, .inr ⟨all2, by rw [fl, List.length_append]; omega, fun z => by rw [fl, List.length_append] at z; omega, fun _ d H' z => hE d H' (z.from (upd_new np))⟩⟩⟩⟩
    · rw [if_neg big]
      exact one_non fun H1 x1 E1 Q1 hN => ⟨_, rfl, _, rfl, [.ref lg, .ref lt], rfl, (by show 2 ≤ sizeLine; omega), fun p np => ⟨p, _, rfl, upd_same, (by show 2 ≤ 100; decide), .inr ⟨[lg, lt], [(ns, hl), (ns, ht)], ns, rfl, swaps2 ((swlB.extN x1).same (upd_new np)) ((swtB.extN x1).same (upd_new np)), all1, rfl, .inr ⟨all2, by rw [fl, List.length_append]; omega, fun _ q H' s' _ _ => hN _ _ ((upd_new np).trans s'), fun z => by rw [fl, List.length_append] at z; omega⟩⟩⟩⟩
  · have rt : ∀ {H1 : Hp}, ExtN (delH B9 L) H1 → RightO K CS .Add (.ref lt) H1 := fun x1 => .inl ⟨lt, tx, _, rfl, x1 _ _ ht1 (fun _ z => nomatch z)⟩
    by_cases big : 40 < hl.length + ht.length
    · rw [if_pos big]
      exact one_err (Cx := CM) (fs := fTooMany) hw_m fun H1 x1 E1 Q1 hE => ⟨_, rfl, _, rfl, lg, lx, _, rfl, x1 _ _ hl1 (fun _ z => nomatch z), rt x1, lg, .ref lt, ns, hl, rfl, swlB.extN x1, okl, by omega, .inr ⟨lt, ns, ht, rfl, swtB.extN x1, okt, by omega, fun z => absurd rfl z, fun _ => ⟨fun z => by omega, fun _ => hE⟩⟩⟩
    · rw [if_neg big]
      exact one_non fun H1 x1 E1 Q1 hN => ⟨_, rfl, _, rfl, lg, lx, _, rfl, x1 _ _ hl1 (fun _ z => nomatch z), rt x1, lg, .ref lt, ns, hl, rfl, swlB.extN x1, okl, by omega, .inr ⟨lt, ns, ht, rfl, swtB.extN x1, okt, by omega, fun z => absurd rfl z, fun _ => ⟨fun _ q H' s' _ _ => hN _ _ s', fun z => by omega⟩⟩⟩
  dsimp only
  have swl11 := swlB.extN hd11.ext
  have swt11 := swtB.extN hd11.ext
  obtain ⟨_, _, _, _, _, _, hl11, _⟩ := id swl11
  obtain ⟨_, _, _, _, _, _, ht11, _⟩ := id swt11
  refine seq_any (R := fun v H' => Same B11 H' ∧ It H' v (if 40 < hl.length + ht.length then some (.str "hands", .int 40) else none)) (fun Q2 kq => ?_) ?_
  · refine ⟨_, rfl, lg, _, _, rfl, hl11, lg, ns, hl, rfl, swl11, _, rfl, by omega, by omega, _, rfl, lt, _, _, rfl, ht11, lt, ns, ht, rfl, swt11, _, rfl, by omega, by omega, _, _, rfl, rfl, _, _, rfl, rfl, decide ((40 : Int) < (hl.length : Int) + ht.length), rfl, ?_⟩
    by_cases big : 40 < hl.length + ht.length
    · rw [if_pos big] at kq
      rw [decide_eq_true (by omega)]
      exact iteT (tup_l (x := .str "hands") (y := .int 40) dC dC fun t H' s i => kq _ _ ⟨s, i⟩)
    · rw [if_neg big] at kq
      rw [decide_eq_false (by omega)]
      exact iteF (kq _ _ ⟨Same.refl _, rfl⟩)
  rintro vf B12 ⟨s12, if12⟩
  show tRet _ _ [some (V.ref p), some (.ref a), some (.ref nm'), some (.ref rw), some (.str moreS), some (.ref L), some (.ref L9), some vf, some vb, some (.ref lt), some (.ref lg), some vo, some (.ref b)] B12
  obtain ⟨vs, eL12, alL12⟩ := (hd11.same s12).l
  have e9d : delH B9 L L9 = some (.lst v9) := by rw [delH_ne n9]; exact e9
  have e12 := s12 _ _ (hd11.ext _ _ e9d (fun _ z => nomatch z))
  have al12 := (al9.mono fun _ _ z => It.same s12 ((z.del eL9).extN hd11.ext))
  refine ⟨_, rfl, _, rfl, lst_l (cons_l (tup_l (x := .str "unlike") (y := .str "strangers") dC dC fun t1 G1 s1 i1 => ⟨_, rfl, _, rfl, (by show 3 ≤ sizeLine; omega), fun l nl => ?_⟩))⟩
  have u := upd_new (o := .lst [V.ref t1, vf, vf]) nl
  have hl3 : upd G1 l (.lst [V.ref t1, vf, vf]) l = some (.lst [V.ref t1, vf, vf]) := upd_same
  generalize upd G1 l (.lst [V.ref t1, vf, vf]) = G2 at u hl3 ⊢
  have g2 := s1.trans u
  have l9 := al12.1
  refine ⟨L9, l, v9, _, rfl, rfl, g2 _ _ e12, hl3, (by rw [l9]; show 11 + 3 ≤ sizeLine; omega), fun q nq => ?_⟩
  have w := upd_new (o := .lst (v9 ++ [V.ref t1, vf, vf])) nq
  have hq : upd G2 q (.lst (v9 ++ [V.ref t1, vf, vf])) q = some (.lst (v9 ++ [V.ref t1, vf, vf])) := upd_same
  generalize upd G2 q (.lst (v9 ++ [V.ref t1, vf, vf])) = G3 at w hq ⊢
  have g3 := g2.trans w
  have alR := All2.app (al12.mono fun _ _ z => It.same g3 z) (All2.snoc (xs := [_, _]) (ys := [_, _]) (All2.snoc (xs := [_]) (ys := [_]) (All2.snoc (xs := []) (ys := []) All2.nil (i1.same (u.trans w))) (if12.same g3)) (if12.same g3))
  have gd : ∀ o ∈ (([some (V.str "swap", V.str "swap"), some (.str "swap", .str "swaps"), some (.str "swap", .str "swaps"), some (.str "unlike", .str "strangers"), some (.str "swap", .str "other")] ++ [some (.str "unlike", .str "strangers"), some (.str "swap", .str "swap"), some (.str "done", .str "done"), some (.str "hand", .int rs.length)]) ++ [some (.str "hand", .int (-1)), some (.str (if rs = [] then "hand" else "twice"), .int 0)]) ++ [some (.str "unlike", .str "strangers"), if 40 < hl.length + ht.length then some (.str "hands", .int 40) else none, if 40 < hl.length + ht.length then some (.str "hands", .int 40) else none], GoodO o := by
    have k1 : PyData.strOk "swap" = true := by decide +kernel
    have k2 : PyData.strOk "swaps" = true := by decide +kernel
    have k3 : PyData.strOk "unlike" = true := by decide +kernel
    have k4 : PyData.strOk "strangers" = true := by decide +kernel
    have k5 : PyData.strOk "other" = true := by decide +kernel
    have k6 : PyData.strOk "done" = true := by decide +kernel
    have k7 : PyData.strOk "hand" = true := by decide +kernel
    have k8 : PyData.strOk "twice" = true := by decide +kernel
    have k9 : PyData.strOk "hands" = true := by decide +kernel
    have kf : GoodO (if 40 < hl.length + ht.length then some (.str "hands", .int 40) else none) := by split; exact k9; trivial
    have kt : PyData.strOk (if rs = [] then "hand" else "twice") = true := by split; exact k7; exact k8
    intro o ho
    simp only [List.cons_append, List.nil_append, List.mem_cons, List.not_mem_nil, or_false] at ho
    rcases ho with rfl | rfl | rfl | rfl | rfl | rfl | rfl | rfl | rfl | rfl | rfl | rfl | rfl | rfl
    · exact ⟨k1, k1⟩
    · exact ⟨k1, k2⟩
    · exact ⟨k1, k2⟩
    · exact ⟨k3, k4⟩
    · exact ⟨k1, k5⟩
    · exact ⟨k3, k4⟩
    · exact ⟨k1, k1⟩
    · exact ⟨k6, k6⟩
    · exact k7
    · exact k7
    · exact kt
    · exact ⟨k3, k4⟩
    · exact kf
    · exact kf
  obtain ⟨sh1, sh2⟩ := goods_sh gd
  have alL : All2 (It G3) vs _ := alL12.mono fun _ _ z => It.same g3 z
  refine ⟨_, _, .lst (SqL.of (g3 _ _ eL12)) (goods_dp gd alL), .lst (SqL.of hq) (goods_dp gd alR), sh1, sh1, ?_⟩
  rw [sh2]
  exact q_ G3
end
end K5

/-! k05: law. -/
namespace K5
open PySem PySem.Spec PyProof.Rows L2 LamX K1 K18

abbrev nLaw5 : List Str := ["_law_script", "_law_pen_here", "_law_names_here", "_law_tables", "_law_rows_here", "_law_swaps", "_law_every", "_law_whole", "_law_swap", "_law_joined", "_law_backs", "_law_turn"]
def spLaw (K : PySem.W.Frag) (T : List (Addr × Str)) : Sp := fun vs H Q _ => ∃ (a : Addr) (ns : List Int), vs = [.ref a] ∧ SqL K H a (ns.map V.int) ∧ ns.length ≤ 63 ∧ Tabs T H ∧ ∀ H', Q (.bl true) H'
/-- tables of rows -/
def TbAt (H : Hp) (a p : Addr) (m : Nat) (rs : List Row) : Prop := RwL H a rs ∧ a ≠ p ∧ (∀ r ∈ rs, RwOk m r) ∧ rs.length ≤ 4
section
variable {P : Program} {w : World} {K : PySem.W.Frag} {mg : Str → Option Value} {base : Heap} {f C CH CS CW CD CI CT CU CM : Addr} {fd : FuncData}
abbrev HasRows (P : Program) (w : World) (K : PySem.W.Frag) (mg : Str → Option Value) (base : Heap) : Prop := Has P w K mg base CX0 3 "_law_rows" ["_law_pen_here", "_law_strangers", "_law_many"] spRows
abbrev HasLNames (P : Program) (w : World) (K : PySem.W.Frag) (mg : Str → Option Value) (base : Heap) : Prop := Has P w K mg base CX0 3 "_law_names" ["_law_pen_here", "_law_many"] spLNames
abbrev HasHandsL (P : Program) (w : World) (K : PySem.W.Frag) (mg : Str → Option Value) (base : Heap) (C CH : Addr) : Prop := Has P w K mg base CX0 9 "_law_hands" ["_law_pen_here", "_law_names_here", "_law_rows_here"] (spHandsL C CH)
abbrev HasBackR (P : Program) (w : World) (K : PySem.W.Frag) (mg : Str → Option Value) (base : Heap) (C CH CS : Addr) : Prop := Has P w K mg base CX0 13 "_law_back_right" ["_law_pen_here", "_law_swap", "_law_names_here", "_law_rows_here"] (spBackR C CH CS)
abbrev HasPorR (P : Program) (w : World) (K : PySem.W.Frag) (mg : Str → Option Value) (base : Heap) (C CH CS : Addr) : Prop := Has P w K mg base CX0 11 "_law_portion_right" ["_law_pen_here", "_law_swap", "_law_names_here", "_law_rows_here"] (spPorR C CH CS)
abbrev HasRefR (P : Program) (w : World) (K : PySem.W.Frag) (mg : Str → Option Value) (base : Heap) (T : List (Addr × Str)) (C CH CS : Addr) : Prop := Has P w K mg base CX0 15 "_law_refused_right" ["_law_pen_here", "_law_swap", "_law_names_here", "_law_rows_here"] (spRef T C CH CS)
abbrev FnOne (P : Program) (w : World) (K : PySem.W.Frag) (mg : Str → Option Value) (base : Heap) (C CH CS CW CU CM : Addr) : Prop := ∃ f, mg "one_after" = some (.ref f) ∧ PySem.W.keepIn K (.ref f) = true ∧ FnR P w K mg base (L2.CX P w) 10 f (fun vs H Q E => ∃ rest, vs = rest ∧ rest.length ≤ sizeLine ∧ ∀ p, H p = none → spOne K C CH CS CW CU CM [.ref p] (upd H p (.tup rest)) Q E)
theorem RwL.updL {H : Hp} {d D : Addr} {rs : List Row} {xs : List V} {o : HO} (hD : H D = some (.lst xs)) (ne : d ≠ D) (h : RwL H d rs) : RwL (upd H D o) d rs := by
  obtain ⟨as, a, b⟩ := h
  exact ⟨as, (upd_ne ne).trans a, b.mono fun x r z => (upd_ne (ne_of z hD (fun z => nomatch z))).trans z⟩
theorem SwAt.updL {H : Hp} {a D : Addr} {ns : List Str} {hs : List Hnd} {xs : List V} {o : HO} (hD : H D = some (.lst xs)) (h : SwAt C CH CS H a ns hs) : SwAt C CH CS (upd H D o) a ns hs := by
  obtain ⟨dx, ps, ph, pn, as, nas, h1, h2, h3, h4, h5, h6⟩ := h
  exact ⟨dx, ps, ph, pn, as, nas, (upd_ne (ne_of h1 hD (fun z => nomatch z))).trans h1, (upd_ne (ne_of h2 hD (fun z => nomatch z))).trans h2, (upd_ne (ne_of h3 hD (fun z => nomatch z))).trans h3, h4.mono fun _ _ z => hand_upd hD z, (upd_ne (ne_of h5 hD (fun z => nomatch z))).trans h5, h6.mono fun _ _ z => six_upd hD z⟩
theorem at_last {xs : List V} {x : V} (n : 0 < xs.length) (h : xs[xs.length - 1]? = some x) : atI xs (-1) = some x := by
  unfold atI ixN
  rw [if_neg (by decide), if_pos (by omega)]
  show xs[(-1 + (xs.length : Int)).toNat]? = _
  rw [show (-1 + (xs.length : Int)).toNat = xs.length - 1 by omega]
  exact h
theorem drop1 {xs : List V} (n : 1 ≤ xs.length) : cutV xs (some 1) none = xs.drop 1 := by
  unfold cutV
  rw [show HT.sIx xs.length 0 (some 1) = 1 from by simp [HT.sIx]; omega, show HT.sIx xs.length xs.length none = xs.length from rfl]
  exact List.take_of_length_le (by rw [List.length_drop]; exact Nat.le_refl _)
theorem flat_mk {ns : List Str} (tabs : List (List Row)) : (tabs.map fun rs => (ns, rs.map (mkH ns))).flatMap Prod.snd = tabs.flatten.map (mkH ns) := by
  induction tabs with
  | nil => rfl
  | cons x l ih => rw [List.map_cons, List.flatMap_cons, ih, List.flatten_cons, List.map_append]
theorem fl4 : ∀ (l : List (List Row)), (∀ x ∈ l, x.length ≤ 4) → l.flatten.length ≤ 4 * l.length
  | [], _ => by simp
  | x :: l, h => by
    have h1 := h x List.mem_cons_self
    have h2 := fl4 l fun y hy => h y (List.mem_cons_of_mem _ hy)
    rw [List.flatten_cons, List.length_append, List.length_cons]
    omega
theorem seq_R {S Cc : TS} {D : Ends} {σ : L2.St} {H : Hp} (R : L2.St → Hp → Prop) (h1 : ∀ N : L2.St → Hp → Prop, (∀ σ' H', R σ' H' → N σ' H') → S { D with nx := N } σ H) (h2 : ∀ σ' H', R σ' H' → Cc D σ' H') : tSeq S Cc D σ H := h1 _ h2
theorem scLaw5 : FnScope nLaw5 ["_law_script"] (defScope sLaw) := ⟨rfl, rfl, rfl, by decide +kernel, rfl, by decide +kernel, by decide +kernel⟩
theorem ok_law5 {T : List (Addr × Str)} (G : Glob mg) (R : SwapF K CS) (M : MkS P w K mg base C CH CS CM) (ON : Own P w K mg base CS CX0 11 "__neg__" ["self"] (spSNeg C CH CS)) (NS : NeO P w K mg base CS 4 (spSEq C CH CS)) (AD : AddO P w K mg base CS (L2.CX P w) 10 (spSAdd K C CH CS CW CU CM)) (FO : FnOne P w K mg base C CH CS CW CU CM)
    (HPen : Has P w K mg base CX0 1 "_law_pen" ["_law_script"] (spPen K)) (HT : HasDraw P w K mg base) (HN : HasLNames P w K mg base) (HR : HasRows P w K mg base) (HH : HasHandsL P w K mg base C CH) (HB : HasBackR P w K mg base C CH CS) (HP : HasPorR P w K mg base C CH CS) (HHas : HasHas P w K mg base C CH CS) (HX : HasRefR P w K mg base T C CH CS)
    (F : DefAt K "law" "law" sLaw f fd) : FnOk P w K mg base CX0 16 f fd ["_law_script"] (spLaw K T) := by
  obtain ⟨f1, fd1, m1, k1, b1, G1⟩ := HPen.h
  obtain ⟨ft, fdt, mT, kT, bT, GT⟩ := HT.h
  obtain ⟨fn, fdn, mN, kN, bN, GN⟩ := HN.h
  obtain ⟨fr, fdr, mR, kR, bR, GR⟩ := HR.h
  obtain ⟨fh, fdh, mH, kH, bH, GH⟩ := HH.h
  obtain ⟨fb, fdb, mB, kB, bB, GB⟩ := HB.h
  obtain ⟨fp, fdp, mP, kP, bP, GP⟩ := HP.h
  obtain ⟨fs, fds, mS, kS, bS, GS⟩ := HHas.h
  obtain ⟨fx, fdx, mX, kX, bX, GX⟩ := HX.h
  obtain ⟨fo, mO, kO, GO⟩ := FO
  obtain ⟨fm, fdm, Mm, GM, bM⟩ := M.m
  obtain ⟨fg, fdg, MG, bG, GG⟩ := ON.h
  obtain ⟨fe, fde, ME, bE, GE⟩ := NS.e.o.h
  obtain ⟨fa, fda, MA, bA, GA⟩ := AD.o.h
  refine okN F scLaw5 (fun vs H Q E ⟨a, ns, e, _⟩ => by rw [e]; rfl) (fun cdv A outer s H vs Q E hr ⟨a, is, e, sq, hl, tb, q⟩ => ?_)
  subst e
  have r1 := hr.mono (show 1 ≤ 15 by decide)
  have r3 := hr.mono (show 3 ≤ 15 by decide)
  have r4 := hr.mono (show 4 ≤ 15 by decide)
  have r5 := hr.mono (show 5 ≤ 15 by decide)
  have r9 := hr.mono (show 9 ≤ 15 by decide)
  have r10 := hr.mono (show 10 ≤ 15 by decide)
  have r11 := hr.mono (show 11 ≤ 15 by decide)
  have r13 := hr.mono (show 13 ≤ 15 by decide)
  refine ⟨_, pss_cons (ps_set (i := 1) scLaw5.nd rfl (Or.inr rfl) (pe_call G1 r1 rfl m1 k1 b1 .nil pass0 (pa_cons (pv 0) pa_nil)))
    (pss_cons (ps_set (i := 2) scLaw5.nd rfl (Or.inr rfl) (pe_call GN r3 rfl mN kN bN .nil pass0 (pa_cons (pv 1) (pa_cons (pe_op op_add pe_int (pe_call GT r1 rfl mT kT bT .nil pass0 (pa_cons (pv 1) (pa_cons pe_int pa_nil)))) pa_nil))))
    (pss_cons (ps_setLc (i := 3) (own := [("_law_turn", 11)]) (g := gName 11) (tt := tYes) rfl scLaw5.nd rfl rfl (by rfl) (pi_range1 (by rfl) G.range (pa_cons (pe_op op_add pe_int (pe_call GT r1 rfl mT kT bT .nil pass0 (pa_cons (pv 1) (pa_cons pe_int pa_nil)))) pa_nil)) (blkOk_by (N := nLaw5) (sc := defScope sLaw) (by decide +kernel))
        (fun _ _ _ _ _ => pg_name (i := 11) scLaw5.nd rfl (Or.inl rfl)) (fun _ _ _ _ _ => pts_nil) (fun _ _ _ _ _ => pe_call GR r3 rfl mR kR bR .nil pass0 (pa_cons (pv 1) (pa_cons (pe_callB (r := rLenA K) (call_lenA rfl) (by rfl) G.len PySem.boot_len (pa_cons (pv 2) pa_nil)) (pa_cons (pe_call GT r1 rfl mT kT bT .nil pass0 (pa_cons (pv 1) (pa_cons pe_int pa_nil))) pa_nil)))))
    (pss_cons (ps_setLc (i := 5) (own := [("_law_rows_here", 4)]) (g := gName 4) (tt := tYes) rfl scLaw5.nd rfl rfl (by rfl) (pi_list (pv 3)) (blkOk_by (N := nLaw5) (sc := defScope sLaw) (by decide +kernel))
        (fun _ _ _ _ _ => pg_name (i := 4) scLaw5.nd rfl (Or.inl rfl)) (fun _ _ _ _ _ => pts_nil) (fun _ _ _ _ _ => pe_make (E := E0) Mm GM r9 rfl M.g bM .nil passL (pa_cons (pv 2) (pa_cons (pe_call GH r9 rfl mH kH bH .nil pass0 (pa_cons (pv 1) (pa_cons (pv 2) (pa_cons (pv 4) pa_nil)))) pa_nil))))
    (pss_cons (ps_par (i := 6) (j := 7) rfl scLaw5.nd rfl rfl (by decide) rfl rfl (pa_cons (pe_lst pa_nil) (pa_cons (pe_ix ix_list (pv 5) pe_int (fun _ _ => rfl)) pa_nil)) (by rfl))
    (pss_cons (ps_for PassesOwn.never rfl (pi_zip (by rfl) G.zip (pa_cons (pv 5) (pa_cons (pv 3) pa_nil))) (pg_tup (by rfl) (pgs_cons (pg_name (i := 8) scLaw5.nd rfl (Or.inl rfl)) (pgs_cons (pg_name (i := 4) scLaw5.nd rfl (Or.inl rfl)) pgs_nil)))
      (pss_cons (ps_set (i := 6) scLaw5.nd rfl (Or.inl rfl) (pe_op op_cat (pv 6) (pv 4)))
      (pss_one (ps_if (PW.pt (pw_or (pt_not (pt_val (pe_call GB r13 rfl mB kB bB .nil pass0 (pa_cons (pv 1) (pa_cons (pv 8) (pa_cons (pv 2) (pa_cons (pv 4) pa_nil))))))) (pw_or1 (pt_not (pt_val (pe_call GP r11 rfl mP kP bP .nil pass0 (pa_cons (pv 1) (pa_cons (pv 8) (pa_cons (pv 2) (pa_cons (pv 4) pa_nil)))))))))) pss_dead pss_nil))))
    (pss_cons (ps_for PassesOwn.never rfl (pi_list (pe_slice sl_list (pv 5) (po_some pe_int) po_none)) (pg_name (i := 8) scLaw5.nd rfl (Or.inl rfl)) (pss_one (ps_set (i := 7) scLaw5.nd rfl (Or.inl rfl) (pe_op (op_own (op := .Add) (E := E0) MA AD.sf AD.nr GA r10 bA passL) (pv 7) (pv 8)))))
    (pss_cons (ps_if (pt_cmpR op_eq (pe_callB (r := rLenA K) (call_lenA rfl) (by rfl) G.len PySem.boot_len (pa_cons (pv 5) pa_nil)) pe_int (nomark _))
        (pss_one (ps_set (i := 9) scLaw5.nd rfl (Or.inl rfl) (pe_callR (E := E0) GO r10 kO rfl mO passL (pa_cons (pe_ix ix_list (pv 5) pe_int (fun _ _ => rfl)) pa_nil))))
        (pss_one (ps_set (i := 9) scLaw5.nd rfl (Or.inl rfl) (pe_ifExp (pt_cmpR op_eq (pe_callB (r := rLenA K) (call_lenA rfl) (by rfl) G.len PySem.boot_len (pa_cons (pv 5) pa_nil)) pe_int (nomark _))
          (pe_callR (E := E0) GO r10 kO rfl mO passL (pa_cons (pe_ix ix_list (pv 5) pe_int (fun _ _ => rfl)) (pa_cons (pe_ix ix_list (pv 5) pe_int (fun _ _ => rfl)) pa_nil)))
          (pe_callR (E := E0) GO r10 kO rfl mO passL (pa_cons (pe_ix ix_list (pv 5) pe_int (fun _ _ => rfl)) (pa_cons (pe_ix ix_list (pv 5) pe_int (fun _ _ => rfl)) (pa_cons (pe_ix ix_list (pv 5) pe_int (fun _ _ => rfl)) pa_nil))))))))
    (pss_cons (ps_if (PW.pt (pw_or (pt_not (pt_val (pe_call GS r4 rfl mS kS bS .nil pass0 (pa_cons (pv 9) (pa_cons (pv 2) (pa_cons (pv 6) pa_nil)))))) (pw_or1 (pt_cmpR (op_neO ME NS.ne NS.ob GE r5 bE pass0) (pv 7) (pv 9) (nomark _))))) pss_dead pss_nil)
    (pss_cons (ps_set (i := 10) scLaw5.nd rfl (Or.inl rfl) (pe_op (op_own (op := .Add) (E := E0) MA AD.sf AD.nr GA r10 bA passL) (pe_ix ix_list (pv 5) pe_int (fun _ _ => rfl)) (pe_ix ix_list (pv 5) (pe_un un_neg pe_int) (fun _ _ => rfl))))
    (pss_cons (ps_if (PW.pt (pw_or (pt_cmpR (op_neO ME NS.ne NS.ob GE r5 bE pass0) (pe_un (un_own MG GG r11 bG pass0) (pv 10)) (pe_op (op_own (op := .Add) (E := E0) MA AD.sf AD.nr GA r10 bA passL) (pe_un (un_own MG GG r11 bG pass0) (pe_ix ix_list (pv 5) pe_int (fun _ _ => rfl))) (pe_un (un_own MG GG r11 bG pass0) (pe_ix ix_list (pv 5) (pe_un un_neg pe_int) (fun _ _ => rfl)))) (nomark _))
        (pw_or1 (pt_not (pt_val (pe_call GS r4 rfl mS kS bS .nil pass0 (pa_cons (pe_ix ix_list (pv 5) pe_int (fun _ _ => rfl)) (pa_cons (pv 2) (pa_cons (pe_ix ix_list (pv 3) pe_int (fun _ _ => rfl)) pa_nil))))))))) pss_dead pss_nil)
    (pss_one (ps_ret (pe_call GX hr rfl mX kX bX .nil pass0 (pa_cons (pv 1) (pa_cons (pe_ix ix_list (pv 5) pe_int (fun _ _ => rfl)) (pa_cons (pv 2) (pa_cons (pe_ix ix_list (pv 3) pe_int (fun _ _ => rfl)) pa_nil))))))))))))))))), ?_⟩
  have sz : sizeLine = 16777216 := sizeLine_eq
  refine ⟨_, rfl, a, is, rfl, sq, hl, fun p c H1 s1 hp hc pn1 => ?_⟩
  have tb1 : Tabs T H1 := tabs_same s1 tb
  refine ⟨_, rfl, _, rfl, p, c, 3, _, rfl, pn1, by decide, by decide, by decide, fun r H2 r0 r1 k2 pn2 => ?_⟩
  obtain ⟨r', rfl⟩ := Int.eq_ofNat_of_zero_le r0
  refine ⟨_, _, rfl, rfl, p, c, 2 + r', _, rfl, by omega, pn2, by decide, fun nm ns H3 dr k3 nnm hnm pn3 => ?_⟩
  have ln := dr.len
  have n2 : 2 ≤ ns.length := by omega
  have n4 : ns.length ≤ 4 := by omega
  have nmo := fun n hn => (dr.dr n hn).nm
  have np : nm ≠ p := fun z => by
    obtain ⟨_, _, _, x, _⟩ := id pn2
    rw [z, x] at nnm; cases nnm
  refine ⟨_, rfl, p, c, 3, _, rfl, pn3, by decide, by decide, by decide, fun q4 H4 q0 q1 k4 pn4 => ⟨_, _, rfl, rfl, _, rfl, by omega, by omega, fun D hD => ?_⟩⟩
  obtain ⟨y1, y2⟩ := pn4.ne hD
  have hnm4 := k4 _ _ np hnm
  refine lc_range (lo := 0) (n := ((1 : Int) + q4).toNat) (fun i H5 => ∃ (tas : List Addr) (tabs : List (List Row)), tabs.length = i ∧ H5 D = some (.lst (tas.map V.ref)) ∧ All2 (fun x rs => TbAt H5 x p ns.length rs ∧ x ≠ D) tas tabs ∧ Keep p H4 H5 ∧ Pen H5 p c (1 + 50 + 1 + 41 * i))
    ⟨[], [], rfl, upd_same, All2.nil, theKeep (upd_new hD), (pn4.same (upd_new hD)).mono (by omega)⟩ ?_ ?_
  · rintro i H5 hi ⟨tas, tabs, lt, hd5, al5, k5, pn5⟩
    have Dp : D ≠ p := y1.symm
    have hi3 : i < 3 := by omega
    have hnm5 := k5 _ _ np hnm4
    refine ⟨rfl, yes_of ⟨_, rfl, _, rfl, nm, _, rfl, .inl (SqL.of hnm5), _, rfl, p, c, 5, _, rfl, pn5, by omega, by decide, by decide, fun u H6 u0 u1 k6 pn6 => ?_⟩⟩
    obtain ⟨u', rfl⟩ := Int.eq_ofNat_of_zero_le u0
    rw [List.length_map]
    refine ⟨p, c, ns.length, u', _, rfl, n2, by omega, by omega, pn6, by omega, fun d rs H7 lrs ok7 k7 nd7 rw7 pn7 => ?_⟩
    have k57 := k6.trans k7
    have hd7 := k57 _ _ Dp hd5
    have dD : d ≠ D := fun z => by rw [z, k6 _ _ Dp hd5] at nd7; cases nd7
    have dp : d ≠ p := (pn6.ne nd7).1.symm
    have lta := al5.1
    refine ⟨_, hd7, by rw [List.length_map]; omega, tas ++ [d], tabs ++ [rs], by simp [lt], by rw [upd_same, List.map_append]; rfl, ?_, ?_, (pn7.upd y1 y2).mono (by omega)⟩
    · refine All2.snoc (al5.mono fun x rs ⟨⟨z1, z2, z3, z4⟩, z5⟩ => ⟨⟨RwL.updL hd7 z5 (z1.keep pn5 z2 k57), z2, z3, z4⟩, z5⟩) ⟨⟨RwL.updL hd7 dD rw7, dp, ok7, by omega⟩, dD⟩
    · intro o w no e
      rw [upd_ne (ne_of_none e hD)]
      exact k57 _ _ no (k5 _ _ no e)
  rintro H5 ⟨tas, tabs, lt, hd5, al5, k5, pn5⟩
  have Dp : D ≠ p := y1.symm
  have l1 : 1 ≤ tabs.length := by omega
  have l3 : tabs.length ≤ 3 := by omega
  have hnm5 := k5 _ _ np hnm4
  have pn5' : Pen H5 p c 200 := pn5.mono (by omega)
  refine ⟨_, rfl, D, rfl, ⟨_, SqL.of hd5⟩, fun S hS => ?_⟩
  obtain ⟨x1, x2⟩ := pn5.ne hS
  have Sp_ : S ≠ p := x1.symm
  refine lc_it (walk_list (xs := tas.map V.ref)) (fun i H6 => ∃ sas : List Addr, H6 S = some (.lst (sas.map V.ref)) ∧ All2 (fun x rs => SwAt C CH CS H6 x ns (rs.map (mkH ns))) sas (tabs.take i) ∧ Keep p H5 H6 ∧ Pen H6 p c (200 + 12 * i))
    ⟨[], upd_same, All2.nil, theKeep (upd_new hS), pn5'.same (upd_new hS)⟩ (fun i H6 _ ⟨sas, _, _, k6, _⟩ => SqL.of (k6 _ _ Dp hd5)) ?_ ?_
  · rintro i x H6 H7 hi ⟨sas, hs6, al6, k6, pn6⟩ ⟨rfl, ex⟩
    obtain ⟨ta, ea, rfl⟩ := map_at ex
    obtain ⟨rs, er, ⟨⟨z1, z2, z3, z4⟩, z5⟩⟩ := al5.get ea
    have li := (List.getElem?_eq_some_iff.mp er).1
    refine ⟨rfl, yes_of ⟨_, rfl, _, rfl, _, rfl, _, rfl, p, c, nm, ta, ns, rs, _, rfl, pn6, by omega, np, z2, k6 _ _ np hnm5, dr.nd, nmo, z1.keep pn5 z2 k6, z3, by omega, fun d as H8 k8 nd8 hd8 hh8 pn8 => ?_⟩⟩
    have hs8 := k8 _ _ Sp_ hs6
    refine mk_swap0 (Q := fun v H' => ∃ acc, H' S = some (.lst acc) ∧ acc.length < sizeLine ∧ ∃ sas : List Addr, upd H' S (.lst (acc ++ [v])) S = some (.lst (sas.map V.ref)) ∧ All2 (fun x rs => SwAt C CH CS (upd H' S (.lst (acc ++ [v]))) x ns (rs.map (mkH ns))) sas (tabs.take (i + 1)) ∧ Keep p H5 (upd H' S (.lst (acc ++ [v]))) ∧ Pen (upd H' S (.lst (acc ++ [v]))) p c (200 + 12 * (i + 1)))
      (.inl (k8 _ _ np (k6 _ _ np hnm5))) (.inl hd8) hh8 (sw_ok n2 (by omega) dr.nd nmo z3) (by rw [List.length_map]; omega) fun b H9 s9 nb sw => ?_
    have hs9 := s9 _ _ hs8
    have ls := al6.1
    rw [List.length_take] at ls
    refine ⟨_, hs9, by rw [List.length_map]; omega, sas ++ [b], by rw [upd_same, List.map_append]; rfl, ?_, ?_, ((pn8.same s9).upd x1 x2).mono (by omega)⟩
    · rw [take_more er]
      exact All2.snoc (al6.mono fun x rs z => SwAt.updL hs9 ((z.keepP pn6 k8).same s9)) (SwAt.updL hs9 sw)
    · intro o w no e
      rw [upd_ne (ne_of_none e hS)]
      exact s9 _ _ (k8 _ _ no (k6 _ _ no e))
  rintro H6 ⟨sas, hs6, al6, k6, pn6⟩
  rw [List.length_map, al5.1, List.take_length] at al6
  have pn6' : Pen H6 p c 300 := pn6.mono (by rw [List.length_map, al5.1]; omega)
  have hd6 := k6 _ _ Dp hd5
  have hnm6 := k6 _ _ np hnm5
  have tb6 : All2 (fun x rs => TbAt H6 x p ns.length rs) tas tabs := al5.mono fun x rs ⟨⟨z1, z2, z3, z4⟩, z5⟩ => ⟨z1.keep pn5 z2 k6, z2, z3, z4⟩
  have tbs6 : Tabs T H6 := pn1.tabs (k2.trans (k3.trans (k4.trans (k5.trans k6)))) tb1
  have lS := al6.1
  obtain ⟨t0, et0⟩ : ∃ t0, tabs[0]? = some t0 := ⟨tabs[0], List.getElem?_eq_getElem (by omega)⟩
  obtain ⟨sa0, es0, sw0⟩ := al6.getR et0
  refine ⟨(by show 0 ≤ sizeLine; omega), fun e0 ne0 => ⟨_, rfl, S, _, _, _, rfl, rfl, SqL.of (upd_new ne0 _ _ hs6), atI_nat (j := 0) (v := .ref sa0) (by rw [List.getElem?_map, es0]; rfl), _, _, rfl, ?_⟩⟩
  have s7 := upd_new (o := .lst []) ne0
  have he0 : upd H6 e0 (.lst []) e0 = some (.lst []) := upd_same
  have ep0 := (pn6.ne ne0).1.symm
  generalize upd H6 e0 (.lst []) = H7 at s7 he0 ⊢
  have hs7 := s7 _ _ hs6
  have hd7 := s7 _ _ hd6
  refine ⟨_, rfl, _, rfl, S, D, _, _, rfl, SqL.of hs7, SqL.of hd7, ?_⟩
  refine RZ.for_zipL (by rw [List.length_map, List.length_map, lS, tb6.1]) (fun i σ H8 => ∃ (z4 z8 : Option V) (ev : Addr), σ = [some (V.ref a), some (.ref p), some (.ref nm), some (.ref D), z4, some (.ref S), some (.ref ev), some (.ref sa0), z8, none, none, none] ∧ Keep p H7 H8 ∧ Pen H8 p c (300 + 40 * i) ∧ RwL H8 ev (tabs.take i).flatten ∧ ev ≠ p)
    ⟨none, none, e0, rfl, Keep.refl _ _, pn6'.same s7, ⟨[], he0, All2.nil⟩, ep0⟩ (fun i σ H8 ⟨z4, z8, ev, e, k8, _⟩ => ⟨SqL.of (k8 _ _ Sp_ hs7), SqL.of (k8 _ _ Dp hd7)⟩) ?_ ?_
  · rintro i x y T' σ H8 ex ey ⟨z4, z8, ev, rfl, k8, pn8, ⟨eas, hev, eal⟩, evp⟩ nT
    obtain ⟨sa, es, rfl⟩ := map_at ex
    obtain ⟨ta, et, rfl⟩ := map_at ey
    obtain ⟨rs, er, sw⟩ := al6.get es
    have ⟨rw_, tp, okr, lr4⟩ := tb6.2 i ta rs et er
    have li := (List.getElem?_eq_some_iff.mp er).1
    have sT := upd_new (o := .tup [.ref sa, .ref ta]) nT
    have hT : upd H8 T' (.tup [.ref sa, .ref ta]) T' = some (.tup [.ref sa, .ref ta]) := upd_same
    generalize upd H8 T' (.tup [.ref sa, .ref ta]) = H9 at sT hT ⊢
    have k69 : Keep p H6 H9 := (theKeep s7).trans (k8.trans (theKeep sT))
    obtain ⟨tas', htr, tal⟩ := rw_.keep pn6 tp k69
    have few : (tabs.take i).flatten.length ≤ 12 := by
      have key : ∀ (l : List (List Row)), (∀ x ∈ l, x.length ≤ 4) → l.flatten.length ≤ 4 * l.length := fun l => by
        induction l with
        | nil => simp
        | cons x l ih =>
          intro h
          have h1 := h x List.mem_cons_self
          have h2 := ih fun y hy => h y (List.mem_cons_of_mem _ hy)
          rw [List.flatten_cons, List.length_append, List.length_cons]
          omega
      have := key (tabs.take i) fun x hx => by
        obtain ⟨j, hj⟩ := List.mem_iff_getElem?.mp (List.mem_of_mem_take hx)
        obtain ⟨tx, _, hz⟩ := tb6.getR hj
        exact hz.2.2.2
      rw [List.length_take] at this
      omega
    refine ⟨T', _, rfl, SqT.of hT, rfl, _, _, rfl, _, _, rfl, rfl, ?_⟩
    refine ⟨_, rfl, _, rfl, ev, ta, _, _, rfl, rfl, sT _ _ hev, htr, (by rw [List.length_map, List.length_map, eal.1, tal.1]; omega), fun q1' nq => ?_⟩
    have s10 := upd_new (o := .lst (eas.map V.ref ++ tas'.map V.ref)) nq
    have hq : upd H9 q1' (.lst (eas.map V.ref ++ tas'.map V.ref)) q1' = some (.lst ((eas ++ tas').map V.ref)) := by rw [upd_same, List.map_append]
    have qp : q1' ≠ p := ((pn8.same sT).ne nq).1.symm
    generalize upd H9 q1' (.lst (eas.map V.ref ++ tas'.map V.ref)) = H10 at s10 hq ⊢
    have k610 := k69.trans (theKeep s10)
    have pn10 := (pn8.same sT).same s10
    have ev10 : RwL H10 q1' (tabs.take (i + 1)).flatten := ⟨eas ++ tas', hq, by
      rw [take_more er, List.flatten_append, List.flatten_cons, List.flatten_nil, List.append_nil]
      exact All2.app (eal.mono fun _ _ z => s10 _ _ (sT _ _ z)) (tal.mono fun _ _ z => s10 _ _ z)⟩
    have bnd : i < 3 := by omega
    refine ⟨_, rfl, _, rfl, _, rfl, _, rfl, p, c, sa, nm, ta, ns, rs, _, rfl, pn10, by omega, np, tp, sw.keepP pn6 k610, k610 _ _ np hnm6, n2, by omega, dr.nd, nmo, rw_.keep pn6 tp k610, okr, by omega, fun H11 k11 pn11 => ⟨true, rfl, iteF ?_⟩⟩
    have k611 := k610.trans k11
    refine ⟨_, rfl, _, rfl, _, rfl, _, rfl, p, c, sa, nm, ta, ns, rs, _, rfl, pn11, by omega, np, tp, sw.keepP pn6 k611, k611 _ _ np hnm6, n2, by omega, dr.nd, nmo, rw_.keep pn6 tp k611, okr, by omega, fun H12 k12 pn12 => ⟨true, rfl, iteF ?_⟩⟩
    exact ⟨_, _, q1', rfl, k8.trans ((theKeep (sT.trans s10)).trans (k11.trans k12)), pn12.mono (by omega), (ev10.keep pn10 qp k11).keep pn11 qp k12, qp⟩
  rintro σ H8 ⟨z4, z8, ev, rfl, k8, pn8, hev, evp⟩
  rw [List.length_map, lS, List.take_length] at hev
  have k68 : Keep p H6 H8 := (theKeep s7).trans k8
  have al8 : All2 (fun x rs => SwAt C CH CS H8 x ns (rs.map (mkH ns))) sas tabs := al6.mono fun _ _ z => z.keepP pn6 k68
  have hs8 := k68 _ _ Sp_ hs6
  have hd8 := k68 _ _ Dp hd6
  have hnm8 := k68 _ _ np hnm6
  have pn8' : Pen H8 p c 600 := pn8.mono (by rw [List.length_map, lS]; omega)
  have tb8 : All2 (fun x rs => TbAt H8 x p ns.length rs) tas tabs := tb6.mono fun x rs ⟨z1, z2, z3, z4⟩ => ⟨z1.keep pn6 z2 k68, z2, z3, z4⟩
  have tbs8 : Tabs T H8 := pn6.tabs k68 tbs6
  have okT : ∀ rs ∈ tabs, (∀ r ∈ rs, RwOk ns.length r) ∧ rs.length ≤ 4 := fun rs hrs => by
    obtain ⟨j, hj⟩ := List.mem_iff_getElem?.mp hrs
    obtain ⟨tx, _, hz⟩ := tb6.getR hj
    exact hz.2.2
  have okF : ∀ r ∈ tabs.flatten, RwOk ns.length r := fun r hr => by
    obtain ⟨l, hl1, hl2⟩ := List.mem_flatten.mp hr
    exact (okT l hl1).1 r hl2
  have lF := fl4 tabs fun x hx => (okT x hx).2
  have okH := fun (rs : List Row) (h : ∀ r ∈ rs, RwOk ns.length r) => sw_ok n2 (by omega) dr.nd nmo h
  dsimp only
  refine ⟨_, rfl, 1, rfl, S, _, rfl, SqL.of hs8, fun p1 np1 => ?_⟩
  rw [drop1 (by rw [List.length_map]; omega)]
  have s9 := upd_new (o := .lst ((sas.map V.ref).drop 1)) np1
  have hp1 : upd H8 p1 (.lst ((sas.map V.ref).drop 1)) p1 = some (.lst ((sas.map V.ref).drop 1)) := upd_same
  generalize upd H8 p1 (.lst ((sas.map V.ref).drop 1)) = H9 at s9 hp1 ⊢
  refine ⟨p1, rfl, ⟨_, SqL.of hp1⟩, ?_⟩
  refine for_list (xs := (sas.map V.ref).drop 1) (fun i σ H10 => ∃ (z8 : Option V) (wa : Addr), σ = [some (V.ref a), some (.ref p), some (.ref nm), some (.ref D), z4, some (.ref S), some (.ref ev), some (.ref wa), z8, none, none, none] ∧ Same H9 H10 ∧ SwAt C CH CS H10 wa ns ((tabs.take (i + 1)).flatten.map (mkH ns)))
    ⟨z8, sa0, rfl, Same.refl _, ?_⟩ (fun i σ H10 _ ⟨_, _, _, s10, _⟩ => SqL.of (s10 _ _ hp1)) ?_ ?_
  · rw [take_more et0, List.take_zero, List.nil_append, List.flatten_cons, List.flatten_nil, List.append_nil]
    exact (al8.2 0 sa0 t0 es0 et0).same s9
  · rintro i x σ H10 ex ⟨z8, wa, rfl, s10, swa⟩
    rw [List.getElem?_drop] at ex
    obtain ⟨sx, esx, rfl⟩ := map_at ex
    obtain ⟨rs, er, sw⟩ := al8.get esx
    rw [Nat.add_comm] at er
    have li := (List.getElem?_eq_some_iff.mp er).1
    have okr := okT rs (List.mem_of_getElem? er)
    have okt : ∀ r ∈ (tabs.take (i + 1)).flatten, RwOk ns.length r := fun r hr => by
      obtain ⟨l, h1, h2⟩ := List.mem_flatten.mp hr
      exact (okT l (List.mem_of_mem_take h1)).1 r h2
    have lt1 := fl4 (tabs.take (i + 1)) fun x hx => (okT x (List.mem_of_mem_take hx)).2
    rw [List.length_take] at lt1
    have sw10 := sw.same (s9.trans s10)
    obtain ⟨dw, _, _, _, _, _, w1, _⟩ := id swa
    obtain ⟨dy, _, _, _, _, _, y1', _⟩ := id sw10
    refine ⟨_, rfl, _, rfl, wa, dw, _, rfl, w1, .inl ⟨sx, dy, _, rfl, y1'⟩, wa, .ref sx, ns, _, rfl, swa, okH _ okt, by rw [List.length_map]; omega, .inr ⟨sx, ns, _, rfl, sw10, okH _ okr.1, by rw [List.length_map]; omega, fun z => absurd rfl z, fun _ => ⟨fun _ q' H11 s11 _ sq' => ⟨_, q', rfl, s10.trans s11, ?_⟩, fun big => ?_⟩⟩⟩
    · rw [take_more er, List.flatten_append, List.flatten_cons, List.flatten_nil, List.append_nil, List.map_append]
      exact sq'
    · rw [List.length_map, List.length_map] at big
      omega
  rintro σ H10 ⟨z8', wa, rfl, s10, swa⟩
  have lsd : ((sas.map V.ref).drop 1).length + 1 = tabs.length := by rw [List.length_drop, List.length_map]; omega
  rw [lsd, List.take_length] at swa
  have s810 := s9.trans s10
  have al10 : All2 (fun x rs => SwAt C CH CS H10 x ns (rs.map (mkH ns))) sas tabs := al8.mono fun _ _ z => z.same s810
  have hs10 := s810 _ _ hs8
  have one : ∀ {Q' : VK}, (∀ j H2, Same H10 H2 → SwAt C CH CS H2 j ns (tabs.flatten.map (mkH ns)) → Q' (.ref j) H2) → ∃ rest, sas.map V.ref = rest ∧ rest.length ≤ sizeLine ∧ ∀ p, H10 p = none → spOne K C CH CS CW CU CM [.ref p] (upd H10 p (.tup rest)) Q' E0 := fun {Q'} k => by
    refine ⟨_, rfl, by rw [List.length_map]; omega, fun p' np' => ⟨p', _, rfl, upd_same, by rw [List.length_map]; omega, .inr ⟨sas, tabs.map fun rs => (ns, rs.map (mkH ns)), ns, rfl, ⟨by rw [List.length_map]; exact lS, fun i x y ex ey => ?_⟩, fun q' hq' => ?_, by rw [List.getElem?_map, et0]; rfl, .inr ⟨fun q' hq' => ?_, ?_, fun _ j H2 s2 _ sj => ?_, fun big => ?_⟩⟩⟩⟩
    · rw [List.getElem?_map] at ey
      cases eyy : tabs[i]? with
      | none => rw [eyy] at ey; cases ey
      | some rs =>
        rw [eyy] at ey
        cases ey
        exact (al10.2 i x rs ex eyy).same (upd_new np')
    · obtain ⟨rs, hrs, rfl⟩ := List.mem_map.mp hq'
      have z := okT rs hrs
      exact ⟨okH _ z.1, by rw [List.length_map]; omega⟩
    · obtain ⟨rs, hrs, rfl⟩ := List.mem_map.mp hq'
      rfl
    · rw [flat_mk]; rw [List.length_map]; omega
    · rw [flat_mk] at sj
      exact k j H2 ((upd_new np').trans s2) sj
    · rw [flat_mk, List.length_map] at big
      omega
  dsimp only
  refine seq_R (R := fun σ' H' => ∃ jo, σ' = [some (V.ref a), some (.ref p), some (.ref nm), some (.ref D), z4, some (.ref S), some (.ref ev), some (.ref wa), z8', some (.ref jo), none, none] ∧ Same H10 H' ∧ SwAt C CH CS H' jo ns (tabs.flatten.map (mkH ns))) (fun N hN => ?_) ?_
  · refine ⟨_, rfl, S, _, rfl, .inl (SqL.of hs10), rfl, decide (((sas.map V.ref).length : Int) = 1), by rw [decI], ?_⟩
    rw [List.length_map]
    by_cases c1 : (sas.length : Int) = 1
    · rw [decide_eq_true c1]
      obtain ⟨u, rfl⟩ : ∃ u, sas = [u] := by
        match sas, c1 with
        | [u], _ => exact ⟨u, rfl⟩
        | [], c1 => exact absurd c1 (by simp)
        | _ :: _ :: _, c1 => simp at c1; omega
      exact iteT ⟨_, rfl, S, _, _, _, rfl, rfl, SqL.of hs10, atI_nat (j := 0) rfl, one fun j H2 s2 sj => hN _ _ ⟨j, rfl, s2, sj⟩⟩
    · rw [decide_eq_false c1]
      refine iteF ⟨_, rfl, S, _, rfl, .inl (SqL.of hs10), rfl, decide (((sas.map V.ref).length : Int) = 2), by rw [decI], ?_⟩
      rw [List.length_map]
      by_cases c2 : (sas.length : Int) = 2
      · rw [decide_eq_true c2]
        obtain ⟨u, v, rfl⟩ : ∃ u v, sas = [u, v] := by
          match sas, c2 with
          | [u, v], _ => exact ⟨u, v, rfl⟩
          | [], c2 => exact absurd c2 (by simp)
          | [_], c2 => simp at c2
          | _ :: _ :: _ :: _, c2 => simp at c2; omega
        exact iteT ⟨_, rfl, S, _, _, _, rfl, rfl, SqL.of hs10, atI_nat (j := 0) rfl, _, rfl, S, _, _, _, rfl, rfl, SqL.of hs10, atI_nat (j := 1) rfl, one fun j H2 s2 sj => hN _ _ ⟨j, rfl, s2, sj⟩⟩
      · rw [decide_eq_false c2]
        obtain ⟨u, v, w', rfl⟩ : ∃ u v w', sas = [u, v, w'] := by
          match sas, lS, c1, c2 with
          | [u, v, w'], _, _, _ => exact ⟨u, v, w', rfl⟩
          | [], z, _, _ => simp at z; omega
          | [_], _, c1, _ => simp at c1
          | [_, _], _, _, c2 => simp at c2
          | _ :: _ :: _ :: _ :: _, z, _, _ => simp at z; omega
        exact iteF ⟨_, rfl, S, _, _, _, rfl, rfl, SqL.of hs10, atI_nat (j := 0) rfl, _, rfl, S, _, _, _, rfl, rfl, SqL.of hs10, atI_nat (j := 1) rfl, _, rfl, S, _, _, _, rfl, rfl, SqL.of hs10, atI_nat (j := 2) rfl, one fun j H2 s2 sj => hN _ _ ⟨j, rfl, s2, sj⟩⟩
  rintro _ H11 ⟨jo, rfl, s11, swj⟩
  have s811 := s810.trans s11
  refine ⟨_, rfl, _, rfl, _, rfl, jo, nm, ev, ns, _, rfl, swj, s811 _ _ hnm8, by omega, dr.nd, nmo, hev.same s811, okF, by omega, fun H12 s12 => ⟨true, rfl, iteF ⟨_, rfl, _, rfl, ?_⟩⟩⟩
  refine ne_sw R NS ((swa.same s11).same s12) (swj.same s12) nmo fun H13 s13 => ⟨false, rfl, iteF ?_⟩
  have s813 := (s811.trans s12).trans s13
  have hs13 := s813 _ _ hs8
  have al13 : All2 (fun x rs => SwAt C CH CS H13 x ns (rs.map (mkH ns))) sas tabs := al8.mono fun _ _ z => z.same s813
  have at0 : atI (sas.map V.ref) 0 = some (.ref sa0) := atI_nat (j := 0) (by rw [List.getElem?_map, es0]; rfl)
  obtain ⟨sl, esl⟩ : ∃ sl, sas[sas.length - 1]? = some sl := ⟨sas[sas.length - 1]'(by omega), List.getElem?_eq_getElem _⟩
  obtain ⟨tl, etl, swl⟩ := al13.get esl
  have atL : atI (sas.map V.ref) (-1) = some (.ref sl) := at_last (by rw [List.length_map]; omega) (by rw [List.length_map, List.getElem?_map, esl]; rfl)
  have sw0' := al13.2 0 sa0 t0 es0 et0
  have ok0 := okT t0 (List.mem_of_getElem? et0)
  have okl := okT tl (List.mem_of_getElem? etl)
  have l0 : (t0.map (mkH ns)).length ≤ 4 := by rw [List.length_map]; exact ok0.2
  have ll : (tl.map (mkH ns)).length ≤ 4 := by rw [List.length_map]; exact okl.2
  obtain ⟨d0, _, _, _, _, _, i0, _⟩ := id sw0'
  obtain ⟨dl, _, _, _, _, _, il, _⟩ := id swl
  refine ⟨_, rfl, S, _, _, _, rfl, rfl, SqL.of hs13, at0, _, rfl, 1, rfl, S, _, _, _, rfl, rfl, SqL.of hs13, atL, sa0, d0, _, rfl, i0, .inl ⟨sl, dl, _, rfl, il⟩, sa0, .ref sl, ns, _, rfl, sw0', okH _ ok0.1, by omega, .inr ⟨sl, ns, _, rfl, swl, okH _ okl.1, by omega, fun z => absurd rfl z, fun _ => ⟨fun _ bk H14 s14 _ swb => ?_, fun big => by omega⟩⟩⟩
  have okb : SwOk ns (t0.map (mkH ns) ++ tl.map (mkH ns)) := (okH _ ok0.1).app (okH _ okl.1)
  have lb : (t0.map (mkH ns) ++ tl.map (mkH ns)).length ≤ 40 := by rw [List.length_append]; omega
  obtain ⟨db, _, _, _, _, _, ib, _⟩ := id swb
  refine ⟨_, rfl, bk, db, _, rfl, ib, bk, ns, _, rfl, swb, okb, lb, fun nb H15 s15 _ swnb => ?_⟩
  have s1315 := s14.trans s15
  refine ⟨_, rfl, S, _, _, _, rfl, rfl, SqL.of (s1315 _ _ hs13), at0, sa0, d0, _, rfl, s1315 _ _ i0, sa0, ns, _, rfl, sw0'.same s1315, okH _ ok0.1, by omega, fun n0 H16 s16 _ swn0 => ?_⟩
  have s1316 := s1315.trans s16
  refine ⟨_, rfl, 1, rfl, S, _, _, _, rfl, rfl, SqL.of (s1316 _ _ hs13), atL, sl, dl, _, rfl, s1316 _ _ il, sl, ns, _, rfl, swl.same s1316, okH _ okl.1, by omega, fun n1 H17 s17 _ swn1 => ?_⟩
  have swn0' := swn0.same s17
  obtain ⟨e0', _, _, _, _, _, j0, _⟩ := id swn0'
  obtain ⟨e1', _, _, _, _, _, j1, _⟩ := id swn1
  have lb0 : ((t0.map (mkH ns)).map Hnd.back).length ≤ 4 := by rw [List.length_map]; exact l0
  have lbl : ((tl.map (mkH ns)).map Hnd.back).length ≤ 4 := by rw [List.length_map]; exact ll
  refine ⟨n0, e0', _, rfl, j0, .inl ⟨n1, e1', _, rfl, j1⟩, n0, .ref n1, ns, _, rfl, swn0', (okH _ ok0.1).back, by omega, .inr ⟨n1, ns, _, rfl, swn1, (okH _ okl.1).back, by omega, fun z => absurd rfl z, fun _ => ⟨fun _ sm H18 s18 _ swm => ?_, fun big => by omega⟩⟩⟩
  rw [← List.map_append] at swm
  refine ne_sw R NS (((swnb.same s16).same s17).same s18) swm nmo fun H19 s19 => ⟨false, rfl, iteF ?_⟩
  have s1319 := (((s1316.trans s17).trans s18).trans s19)
  have s819 := s813.trans s1319
  obtain ⟨ta0, eta0, tz1, tz2, tz3, tz4⟩ := tb8.getR et0
  have hd19 := s819 _ _ hd8
  have atT : atI (tas.map V.ref) 0 = some (.ref ta0) := atI_nat (j := 0) (by rw [List.getElem?_map, eta0]; rfl)
  refine ⟨_, rfl, S, _, _, _, rfl, rfl, SqL.of (s1319 _ _ hs13), at0, _, rfl, _, rfl, D, _, _, _, rfl, rfl, SqL.of hd19, atT, sa0, nm, ta0, ns, t0, rfl, sw0'.same s1319, s819 _ _ hnm8, by omega, dr.nd, nmo, tz1.same s819, ok0.1, by omega, fun H20 s20 => ⟨true, rfl, iteF ?_⟩⟩
  have s820 := s819.trans s20
  exact ⟨_, rfl, _, rfl, S, _, _, _, rfl, rfl, SqL.of (s820 _ _ hs8), at0, _, rfl, _, rfl, D, _, _, _, rfl, rfl, SqL.of (s820 _ _ hd8), atT, p, c, sa0, nm, ta0, ns, t0, _, rfl, tabs_same s820 tbs8, pn8'.same s820, by decide, np, tz2, (sw0'.same s1319).same s20, s820 _ _ hnm8, n2, n4, dr.nd, dr.dr, tz1.same s820, ok0.1, by omega, fun H' => q H'⟩
end
end K5

/-! The facts of the opened module, and what they give. -/
namespace K5
open PySem PySem.Spec PyProof.Rows L2 LamX K1 K18

abbrev hC (K : PySem.W.Frag) : Addr := He.ga K "HandOver"
theorem propB_ok {K : PySem.W.Frag} {m : Str} (h : propB K m = true) : PropOf K (rC K) m (He.ma K (rC K) m) (gP K m) := by
  obtain ⟨h1, h⟩ := He.ba h
  obtain ⟨h2, h⟩ := He.ba h
  obtain ⟨h3, h4⟩ := He.ba h
  refine ⟨He.eqO_ok h1, He.eqO_ok h2, of_decide_eq_true h3, ?_⟩
  unfold gP
  split at h4
  · rename_i f r e
    exact ⟨r, by rw [e]⟩
  · cases h4
theorem ownB_ok {K : PySem.W.Frag} {x m : Str} (h : ownB K x m = true) : OwnM K (He.ga K x) m (He.ma K (He.ga K x) m) := ⟨He.eqO_ok (He.ba h).1, (He.ba h).2⟩
theorem opB_ok {K : PySem.W.Frag} {T : String} (h : opB K T = true) : ∃ fo ro : Option Value, PySem.W.findIn K (.type T) (PySem.dunder Operator.Add.info.2) = some fo ∧ PySem.W.findIn K (.type T) (dunderR Operator.Add.info.2) = some ro ∧ PySem.W.subIn K (.type T) (.ref (sC K)) = some false := by
  obtain ⟨h1, h⟩ := He.ba h
  obtain ⟨h2, h3⟩ := He.ba h
  obtain ⟨a, ha⟩ := Option.isSome_iff_exists.mp h1
  obtain ⟨b, hb⟩ := Option.isSome_iff_exists.mp h2
  exact ⟨a, b, ha, hb, of_decide_eq_true h3⟩
theorem cvB_ok {K : PySem.W.Frag} {f : Str} {n : Int} (h : cvB K f n = true) : ∃ u, ClX.CVal K (sC K) (.type "type") f (.int n) u := by
  unfold cvB at h
  split at h
  · rename_i j t e
    have h := of_decide_eq_true h
    subst h
    exact ⟨_, e, ⟨t, rfl⟩⟩
  · cases h
structure ClsFa (K : PySem.W.Frag) (x : Str) : Prop where
  f : ClsF K (He.ga K x)
  mkc : Mk K (He.ga K x) (He.ma K (He.ga K x) "__init__")
  nf : PySem.W.notFirst K (He.ga K x) (.ref (He.ga K x)) = true
  ne : PySem.W.findIn K (.ref (He.ga K x)) "__ne__" = some (some (.builtin "object.__ne__"))
  ob : PySem.W.subIn K (.ref (He.ga K x)) (.type "object") = some true
theorem clsB_ok {K : PySem.W.Frag} {x : Str} (hn : PySem.W.specialIn K (.builtin "object.__class__") "__get__" = some (some (.builtin "getset_descriptor.__get__"))) (ht : PySem.W.takesIn K (.builtin "object.__class__") = some true) (h : clsB K x = true) : ClsFa K x := by
  obtain ⟨h1, h⟩ := He.ba h
  obtain ⟨h2, h⟩ := He.ba h
  obtain ⟨h3, h⟩ := He.ba h
  obtain ⟨h4, h⟩ := He.ba h
  obtain ⟨h5, h⟩ := He.ba h
  obtain ⟨h6, h⟩ := He.ba h
  obtain ⟨h7, h8⟩ := He.ba h
  exact ⟨⟨He.cls_ok h1, He.eqO_ok h3, hn, ht, of_decide_eq_true h4, of_decide_eq_true h5⟩, He.mkr_ok h2, h6, He.eqO_ok h7, of_decide_eq_true h8⟩
theorem mroB_ok {C : Addr} {l : List Value} (h : mroB C l = true) : ∃ bm, l = .ref C :: bm ∧ PySem.HandSPX.refsVE bm = true := by
  unfold mroB at h
  split at h
  · rename_i c bm
    obtain ⟨h1, h2⟩ := He.ba h
    exact ⟨bm, by rw [of_decide_eq_true h1], h2⟩
  · cases h
theorem oexB_ok {K : PySem.W.Frag} {C : Addr} (h : oexB K C = true) :
    ∃ nm q N bs bm sn sub ab col dd k0 k1 k2 k3 k5, K.lookup C = some (excClassObj nm q C N bs bm true sn sub ab col dd k0 k1 k2 k3 k5 "ValueError.__new__") ∧ PySem.HandSPX.refsVE bm = true := by
  unfold oexB at h
  cases q : K.lookup C with
  | none => rw [q] at h; cases h
  | some o =>
    obtain ⟨oc, od, dt, sl⟩ := o
    rw [q] at h
    cases oc with
    | type t =>
      cases dt with
      | cls cd =>
        have h' : (t == "type" && ((match sl.toList with
          | [_, _, _, _, some (.builtin n), _] => n == "ValueError.__new__"
          | _ => false) && (!cd.hasDel && (cd.hasDict && mroB C cd.mro)))) = true := h
        obtain ⟨a1, h'⟩ := He.ba h'
        obtain ⟨a2, h'⟩ := He.ba h'
        obtain ⟨a3, h'⟩ := He.ba h'
        obtain ⟨a4, a5⟩ := He.ba h'
        have a1 := eq_of_beq a1
        subst a1
        split at a2
        · rename_i k0 k1 k2 k3 n k5 hs
          have a2 := eq_of_beq a2
          subst a2
          have hsl : sl = #[k0, k1, k2, k3, some (.builtin "ValueError.__new__"), k5] := by
            obtain ⟨l⟩ := sl
            simp only at hs
            rw [hs]
          subst hsl
          obtain ⟨nm, bs, mro, ns, qn, hd, sn, sub, ab, col, del⟩ := cd
          simp only [Bool.not_eq_true'] at a3 a4
          obtain ⟨bm, e5, a6⟩ := mroB_ok a5
          simp only at e5
          subst a3 a4 e5
          exact ⟨nm, qn, ns, bs, bm, sn, sub, ab, col, od, k0, k1, k2, k3, k5, rfl, a6⟩
        · cases a2
      | _ => cases h
    | _ => cases h
structure ErrFa (K : PySem.W.Frag) (x : Str) (fs : List Str) : Prop where
  o : OexC K (He.ga K x)
  e : ExcC K (He.ga K x)
  i : PySem.W.findIn K (.ref (He.ga K x)) "__init__" = some (some (.ref (He.ma K (He.ga K x) "__init__")))
  it : PySem.W.typeIn K (.ref (He.ma K (He.ga K x) "__init__")) = some (.type "function")
  le : PySem.W.exmOne K (.ref (He.ga K x)) (.ref (He.ga K "LastError")) = some true
  nf : ∀ f ∈ fs, PySem.W.findIn K (.ref (He.ga K x)) f = some none
theorem errB_ok {K : PySem.W.Frag} {x : Str} {fs : List Str} (hn : PySem.W.specialIn K (.builtin "object.__class__") "__get__" = some (some (.builtin "getset_descriptor.__get__"))) (ht : PySem.W.takesIn K (.builtin "object.__class__") = some true) (h : errB K x fs = true) : ErrFa K x fs := by
  obtain ⟨h1, h⟩ := He.ba h
  obtain ⟨h2, h⟩ := He.ba h
  obtain ⟨h3, h⟩ := He.ba h
  obtain ⟨h4, h⟩ := He.ba h
  obtain ⟨h5, h⟩ := He.ba h
  obtain ⟨h6, h⟩ := He.ba h
  obtain ⟨h7, h⟩ := He.ba h
  obtain ⟨h8, h⟩ := He.ba h
  obtain ⟨h9, h⟩ := He.ba h
  obtain ⟨h10, h11⟩ := He.ba h
  have xf := xfB_ok h5
  exact ⟨⟨oexB_ok h1, He.eqO_ok h2, xf.exC, of_decide_eq_true h3, h4⟩, ⟨xf.ga, xf.gg, xf.exC, xf.hdC, He.eqO_ok h8, hn, ht, of_decide_eq_true h9⟩, He.eqO_ok h6, of_decide_eq_true h7, of_decide_eq_true h10, fun f hf => He.eqO_ok (List.all_eq_true.mp h11 f hf)⟩
/-- all that is asked for, but the defs and the tables -/
structure Facts (K : PySem.W.Frag) : Prop where
  free_ : (freeNames.all (fun x => He.eqO (PySem.W.nsIn K mainGlobals x) (some none))) = true
  gcd_ : (He.eqO (PySem.W.nsIn K mainGlobals "gcd") (some (some (.builtin "math.gcd")))) = true
  glo_ : (gloNames.all (fun x => He.eqO (PySem.W.nsIn K mainGlobals x) (some (some (.ref (He.ga K x)))))) = true
  dig_ : ((He.Fa.str "DIGITS" "0123456789").ok K) = true
  let_ : ((He.Fa.str "LETTERS" "abcdefghijklmnopqrstuvwxyz").ok K) = true
  s12_ : ((He.Fa.int "MOST_SIGNS" 12).ok K) = true
  hn_ : (He.eqO (PySem.W.specialIn K (.builtin "object.__class__") "__get__") (some (some (.builtin "getset_descriptor.__get__")))) = true
  ht_ : (decide (PySem.W.takesIn K (.builtin "object.__class__") = some true)) = true
  cR_ : (clsB K "Ratio") = true
  cH_ : (clsB K "HandOver") = true
  cS_ : (clsB K "Swap") = true
  nRtop_ : ((He.Fa.noat "Ratio" "top").ok K) = true
  nRbottom_ : ((He.Fa.noat "Ratio" "bottom").ok K) = true
  nHgiver_ : ((He.Fa.noat "HandOver" "giver").ok K) = true
  nHtaker_ : ((He.Fa.noat "HandOver" "taker").ok K) = true
  nHcost_ : ((He.Fa.noat "HandOver" "cost").ok K) = true
  nHgain_ : ((He.Fa.noat "HandOver" "gain").ok K) = true
  nSstrangers_ : ((He.Fa.noat "Swap" "strangers").ok K) = true
  nShands_ : ((He.Fa.noat "Swap" "hands").ok K) = true
  nSnets_ : ((He.Fa.noat "Swap" "nets").ok K) = true
  noI_ : (decide (PySem.W.kitOne K (.ref (rC K)) (.type "int") = some false)) = true
  int_ : (decide (PySem.W.kitOne K (.type "int") (.ref (rC K)) = some false)) = true
  own_ : (ownPairs.all (fun p => ownB K p.1 p.2)) = true
  meth_ : ((["returned", "effect"] : List Str).all (fun m => (He.Fa.meth "HandOver" m).ok K)) = true
  sfR_ : (PySem.W.selfFirst K (rC K)) = true
  nrR_ : (He.eqO (PySem.W.findIn K (.ref (rC K)) (dunderR Operator.Add.info.2)) (some none)) = true
  sfS_ : (PySem.W.selfFirst K (sC K)) = true
  nrS_ : (He.eqO (PySem.W.findIn K (.ref (sC K)) (dunderR Operator.Add.info.2)) (some none)) = true
  pr_ : (propB K "sign") = true
  rdR_ : (PySem.W.readsIn K (rC K) (.type "type")) = true
  gaR_ : (He.eqO (PySem.W.specialIn K (.ref (rC K)) "__getattribute__") (some (some (.builtin "type.__getattribute__")))) = true
  sm_ : (He5.wrapB K (rC K) "staticmethod" "staticmethod.__get__" "of") = true
  rdS_ : (PySem.W.readsIn K (sC K) (.type "type")) = true
  gaS_ : (He.eqO (PySem.W.specialIn K (.ref (sC K)) "__getattribute__") (some (some (.builtin "type.__getattribute__")))) = true
  c6_ : (cvB K "MOST_STRANGERS" 6) = true
  c40_ : (cvB K "MOST_HANDS" 40) = true
  gi_ : (PySem.W.fnIn K (He.ma K (sC K) "__getitem__")) = true
  oddk_ : (oddT.all (fun t => decide (PySem.W.kitOne K (.type t) (.ref (sC K)) = some false))) = true
  odda_ : (oddT.all (fun t => opB K t)) = true
  eBadSwap_ : (errB K "BadSwap" ["part"]) = true
  eBadDone_ : (errB K "BadDone" ["part"]) = true
  eNoHand_ : (errB K "NoHand" ["number"]) = true
  eTwice_ : (errB K "Twice" ["value"]) = true
  eUnlike_ : (errB K "Unlike" ["what"]) = true
  eTooMany_ : (errB K "TooMany" ["what", "most"]) = true
  kt_ : (ktPairs.all (fun p => decide (PySem.W.kitOne K (.ref (He.ga K p.1)) (.ref (He.ga K p.2.1)) = some p.2.2))) = true
theorem facts_of {K : PySem.W.Frag} (h0 : factB0 K = true) (h1 : factB1 K = true) (h2 : factB2 K = true) (h3 : factB3 K = true) (h4 : factB4 K = true) (h5 : factB5 K = true) : Facts K := by
  obtain ⟨ffree, h0⟩ := He.ba h0
  obtain ⟨fgcd, h0⟩ := He.ba h0
  obtain ⟨fglo, h0⟩ := He.ba h0
  obtain ⟨fdig, h0⟩ := He.ba h0
  obtain ⟨flet, h0⟩ := He.ba h0
  obtain ⟨fs12, h0⟩ := He.ba h0
  obtain ⟨fhn, h0⟩ := He.ba h0
  obtain ⟨fht, h0⟩ := He.ba h0
  have fcR := h0
  obtain ⟨fcH, h1⟩ := He.ba h1
  obtain ⟨fcS, h1⟩ := He.ba h1
  obtain ⟨fnRtop, h1⟩ := He.ba h1
  obtain ⟨fnRbottom, h1⟩ := He.ba h1
  obtain ⟨fnHgiver, h1⟩ := He.ba h1
  obtain ⟨fnHtaker, h1⟩ := He.ba h1
  obtain ⟨fnHcost, h1⟩ := He.ba h1
  obtain ⟨fnHgain, h1⟩ := He.ba h1
  have fnSstrangers := h1
  obtain ⟨fnShands, h2⟩ := He.ba h2
  obtain ⟨fnSnets, h2⟩ := He.ba h2
  obtain ⟨fnoI, h2⟩ := He.ba h2
  obtain ⟨fint, h2⟩ := He.ba h2
  obtain ⟨fown, h2⟩ := He.ba h2
  obtain ⟨fmeth, h2⟩ := He.ba h2
  obtain ⟨fsfR, h2⟩ := He.ba h2
  obtain ⟨fnrR, h2⟩ := He.ba h2
  have fsfS := h2
  obtain ⟨fnrS, h3⟩ := He.ba h3
  obtain ⟨fpr, h3⟩ := He.ba h3
  obtain ⟨frdR, h3⟩ := He.ba h3
  obtain ⟨fgaR, h3⟩ := He.ba h3
  obtain ⟨fsm, h3⟩ := He.ba h3
  obtain ⟨frdS, h3⟩ := He.ba h3
  obtain ⟨fgaS, h3⟩ := He.ba h3
  obtain ⟨fc6, h3⟩ := He.ba h3
  have fc40 := h3
  obtain ⟨fgi, h4⟩ := He.ba h4
  obtain ⟨foddk, h4⟩ := He.ba h4
  obtain ⟨fodda, h4⟩ := He.ba h4
  obtain ⟨feBadSwap, h4⟩ := He.ba h4
  obtain ⟨feBadDone, h4⟩ := He.ba h4
  obtain ⟨feNoHand, h4⟩ := He.ba h4
  obtain ⟨feTwice, h4⟩ := He.ba h4
  obtain ⟨feUnlike, h4⟩ := He.ba h4
  have feTooMany := h4
  have fkt := h5
  exact ⟨ffree, fgcd, fglo, fdig, flet, fs12, fhn, fht, fcR, fcH, fcS, fnRtop, fnRbottom, fnHgiver, fnHtaker, fnHcost, fnHgain, fnSstrangers, fnShands, fnSnets, fnoI, fint, fown, fmeth, fsfR, fnrR, fsfS, fnrS, fpr, frdR, fgaR, fsm, frdS, fgaS, fc6, fc40, fgi, foddk, fodda, feBadSwap, feBadDone, feNoHand, feTwice, feUnlike, feTooMany, fkt⟩
end K5

namespace K5
open PySem PySem.Spec PyProof.Rows L2 LamX K1 K18
/-- the tables that lambdas fill -/
abbrev TT (K : PySem.W.Frag) : List (Addr × Str) := [(tR K, qRef5)]
theorem defC_of {K : PySem.W.Frag} {x : Str} {st : Stmt} {fd : FuncData} (F : DefAt K x x st (He.ga K x) fd) : DefC K x x st (He.ga K x) fd (He.codeOf K (x, none)) := by
  obtain ⟨oc, od, dV, kV, doc, pm, an, cdv, ct, osl, e, lk, hcd, _, _⟩ := F.ex
  obtain ⟨c, rfl⟩ := He.codeIn_ref hcd
  have ec : He.codeOf K (x, none) = c := He.codeOf_eq (p := (x, none)) lk (by rw [e])
  rw [ec]
  exact ⟨oc, od, dV, kV, doc, pm, an, ct, osl, e, lk, hcd⟩
section
variable {P : Program} {w : World} {K : PySem.W.Frag} {mg : Str → Option Value} {base : Heap}
theorem law_in (X : K.In base) (N : base.Ns mainGlobals mg) (fa : Facts K) (sd : He5.SaysA [] fns K) (TB : TabB base mg (cR K) (tR K)) :
    ∃ fd, DefAt K "law" "law" sLaw (He.ga K "law") fd ∧ FnOk P w K mg base CX0 16 (He.ga K "law") fd ["_law_script"] (spLaw K (TT K)) := by
  have fr : ∀ x ∈ freeNames, mg x = none := fun x hx => PySem.W.mg_none_of X N (He.eqO_ok (List.all_eq_true.mp fa.free_ x hx))
  have gl : ∀ x ∈ gloNames, mg x = some (.ref (He.ga K x)) := fun x hx => PySem.W.mg_of X N (He.eqO_ok (List.all_eq_true.mp fa.glo_ x hx))
  have G : Glob mg := ⟨fr _ (by simp [freeNames]), fr _ (by simp [freeNames]), fr _ (by simp [freeNames]), fr _ (by simp [freeNames]), fr _ (by simp [freeNames]), fr _ (by simp [freeNames]), fr _ (by simp [freeNames]), fr _ (by simp [freeNames]), fr _ (by simp [freeNames]), fr _ (by simp [freeNames]), fr _ (by simp [freeNames]), fr _ (by simp [freeNames]), fr _ (by simp [freeNames]), fr _ (by simp [freeNames]), fr _ (by simp [freeNames]), fr _ (by simp [freeNames]), fr _ (by simp [freeNames]), PySem.W.mg_of X N (He.eqO_ok fa.gcd_)⟩
  obtain ⟨t1, c1⟩ := He.str_ok X N fa.dig_
  obtain ⟨t2, c2⟩ := He.str_ok X N fa.let_
  obtain ⟨t4, c4⟩ := He.int_ok X N fa.s12_
  have CO : Consts mg := ⟨⟨_, c1, ⟨_, rfl⟩⟩, ⟨_, c2, ⟨_, rfl⟩⟩, ⟨_, c4, ⟨_, rfl⟩⟩⟩
  have hn := He.eqO_ok fa.hn_
  have ht := of_decide_eq_true fa.ht_
  have fR := clsB_ok hn ht fa.cR_
  have fH := clsB_ok hn ht fa.cH_
  have fS := clsB_ok hn ht fa.cS_
  have R : RatF K (rC K) := ⟨fR.f, He.noat_ok fa.nRtop_, He.noat_ok fa.nRbottom_, of_decide_eq_true fa.noI_, of_decide_eq_true fa.int_⟩
  have RH : HandF K (hC K) := ⟨fH.f, He.noat_ok fa.nHgiver_, He.noat_ok fa.nHtaker_, He.noat_ok fa.nHcost_, He.noat_ok fa.nHgain_⟩
  have RS : SwapF K (sC K) := ⟨fS.f, He.noat_ok fa.nSstrangers_, He.noat_ok fa.nShands_, He.noat_ok fa.nSnets_, ⟨fa.rdS_, He.eqO_ok fa.gaS_⟩, cvB_ok fa.c6_, cvB_ok fa.c40_⟩
  have gR : mg "Ratio" = some (.ref (rC K)) := gl _ (by simp [gloNames])
  have gH : mg "HandOver" = some (.ref (hC K)) := gl _ (by simp [gloNames])
  have gS : mg "Swap" = some (.ref (sC K)) := gl _ (by simp [gloNames])
  have ow : ∀ p ∈ ownPairs, OwnM K (He.ga K p.1) p.2 (He.ma K (He.ga K p.1) p.2) := fun p hp => ownB_ok (List.all_eq_true.mp fa.own_ p hp)
  have me : ∀ m ∈ (["returned", "effect"] : List Str), Meth K (hC K) m (He.ma K (hC K) m) := fun m hm => He.meth_ok (List.all_eq_true.mp fa.meth_ m hm)
  have u1 : ∀ p ∈ TT K, p.1 = tR K → p.2 = qRef5 := fun p hp e => by rw [List.mem_singleton.mp hp]
  have eBadSwap := errB_ok hn ht fa.eBadSwap_
  obtain ⟨iBadSwap, IBadSwap⟩ := sd.def_ 0
  replace IBadSwap : DefAt K "__init__" "BadSwap.__init__" (sIni 6) (He.ma K (He.ga K "BadSwap") "__init__") iBadSwap := IBadSwap
  have rBadSwap : ErrR P w K mg base (He.ga K "BadSwap") "BadSwap" ["part"] := ⟨gl _ (by simp [gloNames]), eBadSwap.o, ⟨_, iBadSwap, eBadSwap.i, eBadSwap.it, IBadSwap.bindsN (fun _ _ _ _ _ _ us hl => match us, hl with | [_, _], _ => rfl),
    init1 IBadSwap ⟨rfl, rfl, rfl, by decide +kernel, rfl, by decide +kernel, by decide +kernel⟩ rfl eBadSwap.o ⟨by decide, by decide⟩ (eBadSwap.nf "part" (by simp))⟩⟩
  have eBadDone := errB_ok hn ht fa.eBadDone_
  obtain ⟨iBadDone, IBadDone⟩ := sd.def_ 1
  replace IBadDone : DefAt K "__init__" "BadDone.__init__" (sIni 7) (He.ma K (He.ga K "BadDone") "__init__") iBadDone := IBadDone
  have rBadDone : ErrR P w K mg base (He.ga K "BadDone") "BadDone" ["part"] := ⟨gl _ (by simp [gloNames]), eBadDone.o, ⟨_, iBadDone, eBadDone.i, eBadDone.it, IBadDone.bindsN (fun _ _ _ _ _ _ us hl => match us, hl with | [_, _], _ => rfl),
    init1 IBadDone ⟨rfl, rfl, rfl, by decide +kernel, rfl, by decide +kernel, by decide +kernel⟩ rfl eBadDone.o ⟨by decide, by decide⟩ (eBadDone.nf "part" (by simp))⟩⟩
  have eNoHand := errB_ok hn ht fa.eNoHand_
  obtain ⟨iNoHand, INoHand⟩ := sd.def_ 2
  replace INoHand : DefAt K "__init__" "NoHand.__init__" (sIni 11) (He.ma K (He.ga K "NoHand") "__init__") iNoHand := INoHand
  have rNoHand : ErrR P w K mg base (He.ga K "NoHand") "NoHand" ["number"] := ⟨gl _ (by simp [gloNames]), eNoHand.o, ⟨_, iNoHand, eNoHand.i, eNoHand.it, INoHand.bindsN (fun _ _ _ _ _ _ us hl => match us, hl with | [_, _], _ => rfl),
    init1 INoHand ⟨rfl, rfl, rfl, by decide +kernel, rfl, by decide +kernel, by decide +kernel⟩ rfl eNoHand.o ⟨by decide, by decide⟩ (eNoHand.nf "number" (by simp))⟩⟩
  have eTwice := errB_ok hn ht fa.eTwice_
  obtain ⟨iTwice, ITwice⟩ := sd.def_ 3
  replace ITwice : DefAt K "__init__" "Twice.__init__" (sIni 12) (He.ma K (He.ga K "Twice") "__init__") iTwice := ITwice
  have rTwice : ErrR P w K mg base (He.ga K "Twice") "Twice" ["value"] := ⟨gl _ (by simp [gloNames]), eTwice.o, ⟨_, iTwice, eTwice.i, eTwice.it, ITwice.bindsN (fun _ _ _ _ _ _ us hl => match us, hl with | [_, _], _ => rfl),
    init1 ITwice ⟨rfl, rfl, rfl, by decide +kernel, rfl, by decide +kernel, by decide +kernel⟩ rfl eTwice.o ⟨by decide, by decide⟩ (eTwice.nf "value" (by simp))⟩⟩
  have eUnlike := errB_ok hn ht fa.eUnlike_
  obtain ⟨iUnlike, IUnlike⟩ := sd.def_ 4
  replace IUnlike : DefAt K "__init__" "Unlike.__init__" (sIni 13) (He.ma K (He.ga K "Unlike") "__init__") iUnlike := IUnlike
  have rUnlike : ErrR P w K mg base (He.ga K "Unlike") "Unlike" ["what"] := ⟨gl _ (by simp [gloNames]), eUnlike.o, ⟨_, iUnlike, eUnlike.i, eUnlike.it, IUnlike.bindsN (fun _ _ _ _ _ _ us hl => match us, hl with | [_, _], _ => rfl),
    init1 IUnlike ⟨rfl, rfl, rfl, by decide +kernel, rfl, by decide +kernel, by decide +kernel⟩ rfl eUnlike.o ⟨by decide, by decide⟩ (eUnlike.nf "what" (by simp))⟩⟩
  have eTooMany := errB_ok hn ht fa.eTooMany_
  obtain ⟨iTooMany, ITooMany⟩ := sd.def_ 5
  replace ITooMany : DefAt K "__init__" "TooMany.__init__" (sIni 14) (He.ma K (He.ga K "TooMany") "__init__") iTooMany := ITooMany
  have rTooMany : ErrR P w K mg base (He.ga K "TooMany") "TooMany" ["what", "most"] := ⟨gl _ (by simp [gloNames]), eTooMany.o, ⟨_, iTooMany, eTooMany.i, eTooMany.it, ITooMany.bindsN (fun _ _ _ _ _ _ us hl => match us, hl with | [_, _, _], _ => rfl),
    init2 ITooMany ⟨rfl, rfl, rfl, by decide +kernel, rfl, by decide +kernel, by decide +kernel⟩ rfl eTooMany.o ⟨by decide, by decide⟩ ⟨by decide, by decide⟩ (eTooMany.nf "what" (by simp)) (eTooMany.nf "most" (by simp))⟩⟩
  have B : Errs P w K mg base (He.ga K "BadSwap") (He.ga K "BadDone") (He.ga K "NoHand") (He.ga K "Twice") (He.ga K "Unlike") (He.ga K "TooMany") := ⟨rBadSwap, rBadDone, rNoHand, rTwice, rUnlike, rTooMany⟩
  have kt : ∀ p ∈ ktPairs, PySem.W.kitOne K (.ref (He.ga K p.1)) (.ref (He.ga K p.2.1)) = some p.2.2 := fun p hp => of_decide_eq_true (List.all_eq_true.mp fa.kt_ p hp)
  have HD_ : Hrd K mg (He.ga K "LastError") (He.ga K "BadSwap") (He.ga K "BadDone") (He.ga K "NoHand") (He.ga K "Twice") (He.ga K "Unlike") (He.ga K "TooMany") := ⟨gl _ (by simp [gloNames]), ⟨gl _ (by simp [gloNames]), eBadSwap.e, eBadSwap.le⟩, ⟨gl _ (by simp [gloNames]), eBadDone.e, eBadDone.le⟩, ⟨gl _ (by simp [gloNames]), eNoHand.e, eNoHand.le⟩, ⟨gl _ (by simp [gloNames]), eTwice.e, eTwice.le⟩, ⟨gl _ (by simp [gloNames]), eUnlike.e, eUnlike.le⟩, ⟨gl _ (by simp [gloNames]), eTooMany.e, eTooMany.le⟩,
    eBadSwap.nf "part" (by simp), eBadDone.nf "part" (by simp), eNoHand.nf "number" (by simp), eTwice.nf "value" (by simp), eUnlike.nf "what" (by simp), eTooMany.nf "what" (by simp), eTooMany.nf "most" (by simp), kt ("BadSwap", "BadSwap", true) (by simp [ktPairs]), kt ("BadDone", "BadSwap", false) (by simp [ktPairs]), kt ("BadDone", "BadDone", true) (by simp [ktPairs]), kt ("NoHand", "BadSwap", false) (by simp [ktPairs]), kt ("NoHand", "BadDone", false) (by simp [ktPairs]), kt ("NoHand", "NoHand", true) (by simp [ktPairs]), kt ("Twice", "BadSwap", false) (by simp [ktPairs]), kt ("Twice", "BadDone", false) (by simp [ktPairs]), kt ("Twice", "NoHand", false) (by simp [ktPairs]), kt ("Twice", "Twice", true) (by simp [ktPairs]), kt ("Unlike", "BadSwap", false) (by simp [ktPairs]), kt ("Unlike", "BadDone", false) (by simp [ktPairs]), kt ("Unlike", "NoHand", false) (by simp [ktPairs]), kt ("Unlike", "Twice", false) (by simp [ktPairs]), kt ("Unlike", "Unlike", true) (by simp [ktPairs]), kt ("TooMany", "BadSwap", false) (by simp [ktPairs]), kt ("TooMany", "BadDone", false) (by simp [ktPairs]), kt ("TooMany", "NoHand", false) (by simp [ktPairs]), kt ("TooMany", "Twice", false) (by simp [ktPairs]), kt ("TooMany", "Unlike", false) (by simp [ktPairs]), kt ("TooMany", "TooMany", true) (by simp [ktPairs])⟩
  have OD : OddF K (sC K) := ⟨fun t h => of_decide_eq_true (List.all_eq_true.mp fa.oddk_ t h), fun t h => opB_ok (List.all_eq_true.mp fa.odda_ t h)⟩
  obtain ⟨disuinteger, Fisuinteger⟩ := sd.def_ 23
  replace Fisuinteger : DefAt K "is_integer" "is_integer" sIsInt (He.ga K "is_integer") disuinteger := Fisuinteger
  have bisuinteger : Binds K disuinteger ["value"] [] := Fisuinteger.bindsN (fun _ _ _ _ _ _ us hl => match us, hl with | [_], _ => rfl)
  have gisuinteger : mg "is_integer" = some (.ref (He.ga K "is_integer")) := gl _ (by simp [gloNames])
  have HI : HasInt P w K mg base := ⟨⟨_, disuinteger, gisuinteger, Fisuinteger.kp, bisuinteger, ok_isInt G Fisuinteger⟩⟩
  obtain ⟨disulisted, Fisulisted⟩ := sd.def_ 25
  replace Fisulisted : DefAt K "is_listed" "is_listed" sListed (He.ga K "is_listed") disulisted := Fisulisted
  have bisulisted : Binds K disulisted ["value"] [] := Fisulisted.bindsN (fun _ _ _ _ _ _ us hl => match us, hl with | [_], _ => rfl)
  have gisulisted : mg "is_listed" = some (.ref (He.ga K "is_listed")) := gl _ (by simp [gloNames])
  have HLi : HasListed P w K mg base := ⟨⟨_, disulisted, gisulisted, Fisulisted.kp, bisulisted, ok_listed G Fisulisted⟩⟩
  obtain ⟨disuwithin, Fisuwithin⟩ := sd.def_ 24
  replace Fisuwithin : DefAt K "is_within" "is_within" sWithin (He.ga K "is_within") disuwithin := Fisuwithin
  have bisuwithin : Binds K disuwithin ["value", "least", "most"] [] := Fisuwithin.bindsN (fun _ _ _ _ _ _ us hl => match us, hl with | [_, _, _], _ => rfl)
  have gisuwithin : mg "is_within" = some (.ref (He.ga K "is_within")) := gl _ (by simp [gloNames])
  have HWi : HasWithin P w K mg base := ⟨⟨_, disuwithin, gisuwithin, Fisuwithin.kp, bisuwithin, ok_within HI Fisuwithin⟩⟩
  obtain ⟨dareuintegers, Fareuintegers⟩ := sd.def_ 26
  replace Fareuintegers : DefAt K "are_integers" "are_integers" sAreInts (He.ga K "are_integers") dareuintegers := Fareuintegers
  have bareuintegers : Binds K dareuintegers ["value"] [] := Fareuintegers.bindsN (fun _ _ _ _ _ _ us hl => match us, hl with | [_], _ => rfl)
  have gareuintegers : mg "are_integers" = some (.ref (He.ga K "are_integers")) := gl _ (by simp [gloNames])
  have HAI : HasAreInts P w K mg base := ⟨⟨_, dareuintegers, gareuintegers, Fareuintegers.kp, bareuintegers, ok_areInts G HI HLi Fareuintegers⟩⟩
  obtain ⟨dcheckuhand, Fcheckuhand⟩ := sd.def_ 32
  replace Fcheckuhand : DefAt K "check_hand" "check_hand" sHand (He.ga K "check_hand") dcheckuhand := Fcheckuhand
  have bcheckuhand : Binds K dcheckuhand ["many", "value"] [] := Fcheckuhand.bindsN (fun _ _ _ _ _ _ us hl => match us, hl with | [_, _], _ => rfl)
  have gcheckuhand : mg "check_hand" = some (.ref (He.ga K "check_hand")) := gl _ (by simp [gloNames])
  have HHa : HasHand P w K mg base (He.ga K "NoHand") := ⟨⟨_, dcheckuhand, gcheckuhand, Fcheckuhand.kp, bcheckuhand, ok_hand HWi B Fcheckuhand⟩⟩
  obtain ⟨dcheckunoneutwice, Fcheckunoneutwice⟩ := sd.def_ 29
  replace Fcheckunoneutwice : DefAt K "check_none_twice" "check_none_twice" sNoneTwice (He.ga K "check_none_twice") dcheckunoneutwice := Fcheckunoneutwice
  have bcheckunoneutwice : Binds K dcheckunoneutwice ["items"] [] := Fcheckunoneutwice.bindsN (fun _ _ _ _ _ _ us hl => match us, hl with | [_], _ => rfl)
  have gcheckunoneutwice : mg "check_none_twice" = some (.ref (He.ga K "check_none_twice")) := gl _ (by simp [gloNames])
  have HTw : HasTwice P w K mg base (He.ga K "Twice") := ⟨⟨_, dcheckunoneutwice, gcheckunoneutwice, Fcheckunoneutwice.kp, bcheckunoneutwice, ok_twice B Fcheckunoneutwice⟩⟩
  have HTS : HasTwiceS P w K mg base := ⟨⟨_, dcheckunoneutwice, gcheckunoneutwice, Fcheckunoneutwice.kp, bcheckunoneutwice, ok_twiceS Fcheckunoneutwice⟩⟩
  obtain ⟨dhandsutold, Fhandsutold⟩ := sd.def_ 30
  replace Fhandsutold : DefAt K "hands_told" "hands_told" sHands (He.ga K "hands_told") dhandsutold := Fhandsutold
  have bhandsutold : Binds K dhandsutold ["many", "value", "part"] [] := Fhandsutold.bindsN (fun _ _ _ _ _ _ us hl => match us, hl with | [_, _, _], _ => rfl)
  have ghandsutold : mg "hands_told" = some (.ref (He.ga K "hands_told")) := gl _ (by simp [gloNames])
  have HHs : HasHands P w K mg base (He.ga K "BadDone") (He.ga K "NoHand") (He.ga K "Twice") := ⟨⟨_, dhandsutold, ghandsutold, Fhandsutold.kp, bhandsutold, ok_hands G HAI HWi HTw B Fhandsutold⟩⟩
  obtain ⟨ddoneutold, Fdoneutold⟩ := sd.def_ 31
  replace Fdoneutold : DefAt K "done_told" "done_told" sDone (He.ga K "done_told") ddoneutold := Fdoneutold
  have bdoneutold : Binds K ddoneutold ["many", "value", "part"] [] := Fdoneutold.bindsN (fun _ _ _ _ _ _ us hl => match us, hl with | [_, _, _], _ => rfl)
  have gdoneutold : mg "done_told" = some (.ref (He.ga K "done_told")) := gl _ (by simp [gloNames])
  have HDo : HasDone P w K mg base (He.ga K "BadDone") (He.ga K "NoHand") (He.ga K "Twice") := ⟨⟨_, ddoneutold, gdoneutold, Fdoneutold.kp, bdoneutold, ok_done G HHs Fdoneutold⟩⟩
  obtain ⟨disuname, Fisuname⟩ := sd.def_ 27
  replace Fisuname : DefAt K "is_name" "is_name" sName (He.ga K "is_name") disuname := Fisuname
  have bisuname : Binds K disuname ["value"] [] := Fisuname.bindsN (fun _ _ _ _ _ _ us hl => match us, hl with | [_], _ => rfl)
  have gisuname : mg "is_name" = some (.ref (He.ga K "is_name")) := gl _ (by simp [gloNames])
  have HNa : HasName P w K mg base := ⟨⟨_, disuname, gisuname, Fisuname.kp, bisuname, ok_name G CO Fisuname⟩⟩
  obtain ⟨dareunames, Fareunames⟩ := sd.def_ 28
  replace Fareunames : DefAt K "are_names" "are_names" sAreNames (He.ga K "are_names") dareunames := Fareunames
  have bareunames : Binds K dareunames ["value"] [] := Fareunames.bindsN (fun _ _ _ _ _ _ us hl => match us, hl with | [_], _ => rfl)
  have gareunames : mg "are_names" = some (.ref (He.ga K "are_names")) := gl _ (by simp [gloNames])
  have HNs : HasNames P w K mg base := ⟨⟨_, dareunames, gareunames, Fareunames.kp, bareunames, ok_names G HNa HLi Fareunames⟩⟩
  obtain ⟨d0, F0⟩ := sd.def_ 8
  replace F0 : FunD K "__init__" "Ratio.__init__" (defArgs sRInit) (defBody sRInit) (defScope sRInit) [.int 1] [] (He.ma K (rC K) "__init__") d0 := F0
  have okI : FnOk P w K mg base CX0 2 (He.ma K (rC K) "__init__") d0 ["self", "top", "bottom"] (spRI (rC K)) := ok_rinit G R HI F0
  obtain ⟨ds0, v0, bi0⟩ : ∃ ds, Vals [] ds ∧ Binds K d0 ["self", "top", "bottom"] ds := F0.binds1 3 1 (List.cons_ne_nil _ _) rfl fun T kV doc pm an cdv ct us its hu hi => match us, its, hu, hi with
    | [_, _, _], [_], _, _ => ⟨_, rfl, rfl⟩
  obtain ⟨ds1, v1, bi1⟩ : ∃ ds, Vals [.int 1] ds ∧ Binds K d0 ["self", "top", "bottom"] ds := F0.binds1 2 0 (List.cons_ne_nil _ _) rfl fun T kV doc pm an cdv ct us its hu hi => match us, its, hu, hi with
    | [_, _], [_], _, _ => ⟨_, rfl, rfl⟩
  cases v0
  have MR : MkR P w K mg base (rC K) := ⟨gR, _, d0, ds1, fR.mkc, okI, bi0, v1, bi1⟩
  obtain ⟨duright, Furight⟩ := sd.def_ 33
  replace Furight : DefAt K "_right" "_right" sRight (He.ga K "_right") duright := Furight
  have buright : Binds K duright ["other"] [] := Furight.bindsN (fun _ _ _ _ _ _ us hl => match us, hl with | [_], _ => rfl)
  have guright : mg "_right" = some (.ref (He.ga K "_right")) := gl _ (by simp [gloNames])
  have HR : HasRight P w K mg base (He.ga K "Ratio") := ⟨⟨_, duright, guright, Furight.kp, buright, ok_right G R HI MR Furight⟩⟩
  obtain ⟨disuratio, Fisuratio⟩ := sd.def_ 34
  replace Fisuratio : DefAt K "is_ratio" "is_ratio" sIsRatio (He.ga K "is_ratio") disuratio := Fisuratio
  have bisuratio : Binds K disuratio ["value"] [] := Fisuratio.bindsN (fun _ _ _ _ _ _ us hl => match us, hl with | [_], _ => rfl)
  have gisuratio : mg "is_ratio" = some (.ref (He.ga K "is_ratio")) := gl _ (by simp [gloNames])
  have HQ : HasIsR P w K mg base (He.ga K "Ratio") := ⟨⟨_, disuratio, gisuratio, Fisuratio.kp, bisuratio, ok_isR G R HI gR Fisuratio⟩⟩
  have CR : ClX.CRead K (rC K) (.type "type") := ⟨fa.rdR_, He.eqO_ok fa.gaR_⟩
  obtain ⟨d5, F5⟩ := sd.def_ 7
  replace F5 : DefAt K "of" "Ratio.of" sROf (He5.wf K (rC K) "staticmethod" "of") d5 := F5
  have SM : SMet K (rC K) "of" (He5.wf K (rC K) "staticmethod" "of") := ⟨⟨_, (He5.wrapB_ok fa.sm_).1, (He5.wrapB_ok fa.sm_).2⟩, F5.kp⟩
  obtain ⟨d2, F2⟩ := sd.def_ 6
  replace F2 : DefAt K "sign" "Ratio.sign" sRSign (gP K "sign") d2 := F2
  have RM : RatM P w K mg base (rC K) := ⟨gR, CR, ⟨_, d5, SM, F5.bindsN (fun _ _ _ _ _ _ us hl => match us, hl with | [_], _ => rfl), ok_of HR HQ F5⟩, ⟨_, _, d2, propB_ok fa.pr_, F2.bindsN (fun _ _ _ _ _ _ us hl => match us, hl with | [_], _ => rfl), ok_sign R F2⟩⟩
  obtain ⟨mRuuadduu, MRuuadduu⟩ := sd.def_ 9
  replace MRuuadduu : DefAt K "__add__" "Ratio.__add__" sRAdd (He.ma K (He.ga K "Ratio") "__add__") mRuuadduu := MRuuadduu
  have qRuuadduu : Binds K mRuuadduu ["self", "other"] [] := MRuuadduu.bindsN (fun _ _ _ _ _ _ us hl => match us, hl with | [_, _], _ => rfl)
  obtain ⟨mRuuneguu, MRuuneguu⟩ := sd.def_ 10
  replace MRuuneguu : DefAt K "__neg__" "Ratio.__neg__" sRNeg (He.ma K (He.ga K "Ratio") "__neg__") mRuuneguu := MRuuneguu
  have qRuuneguu : Binds K mRuuneguu ["self"] [] := MRuuneguu.bindsN (fun _ _ _ _ _ _ us hl => match us, hl with | [_], _ => rfl)
  obtain ⟨mRuuequu, MRuuequu⟩ := sd.def_ 11
  replace MRuuequu : DefAt K "__eq__" "Ratio.__eq__" sREq (He.ma K (He.ga K "Ratio") "__eq__") mRuuequu := MRuuequu
  have qRuuequu : Binds K mRuuequu ["self", "other"] [] := MRuuequu.bindsN (fun _ _ _ _ _ _ us hl => match us, hl with | [_, _], _ => rfl)
  have RA : AddO P w K mg base (rC K) CX0 5 (spSum (rC K)) := ⟨⟨_, mRuuadduu, ow ("Ratio", "__add__") (by simp [ownPairs]), qRuuadduu, ok_add R HR MR MRuuadduu⟩, fa.sfR_, He.eqO_ok fa.nrR_⟩
  have RN : Own P w K mg base (rC K) CX0 4 "__neg__" ["self"] (spNeg (rC K)) := ⟨_, mRuuneguu, ow ("Ratio", "__neg__") (by simp [ownPairs]), qRuuneguu, ok_neg R MR MRuuneguu⟩
  have RE : EqO P w K mg base (rC K) 1 (spREq (rC K)) := ⟨⟨_, mRuuequu, ow ("Ratio", "__eq__") (by simp [ownPairs]), qRuuequu, ok_req G R gR MRuuequu⟩, fR.nf⟩
  obtain ⟨disuamount, Fisuamount⟩ := sd.def_ 35
  replace Fisuamount : DefAt K "is_amount" "is_amount" sIsAmount (He.ga K "is_amount") disuamount := Fisuamount
  have bisuamount : Binds K disuamount ["value"] [] := Fisuamount.bindsN (fun _ _ _ _ _ _ us hl => match us, hl with | [_], _ => rfl)
  have gisuamount : mg "is_amount" = some (.ref (He.ga K "is_amount")) := gl _ (by simp [gloNames])
  have HAm : HasAmount P w K mg base (He.ga K "Ratio") := ⟨⟨_, disuamount, gisuamount, Fisuamount.kp, bisuamount, ok_amount R HQ RM Fisuamount⟩⟩
  obtain ⟨duareuratios, Fuareuratios⟩ := sd.def_ 36
  replace Fuareuratios : DefAt K "_are_ratios" "_are_ratios" sAreRatios (He.ga K "_are_ratios") duareuratios := Fuareuratios
  have buareuratios : Binds K duareuratios ["value"] [] := Fuareuratios.bindsN (fun _ _ _ _ _ _ us hl => match us, hl with | [_], _ => rfl)
  have guareuratios : mg "_are_ratios" = some (.ref (He.ga K "_are_ratios")) := gl _ (by simp [gloNames])
  have HAr : HasAre P w K mg base (He.ga K "Ratio") := ⟨⟨_, duareuratios, guareuratios, Fuareuratios.kp, buareuratios, ok_are G HLi HQ Fuareuratios⟩⟩
  obtain ⟨dadded, Fadded⟩ := sd.def_ 37
  replace Fadded : DefAt K "added" "added" sAdded (He.ga K "added") dadded := Fadded
  have badded : Binds K dadded ["ratios"] [] := Fadded.bindsN (fun _ _ _ _ _ _ us hl => match us, hl with | [_], _ => rfl)
  have gadded : mg "added" = some (.ref (He.ga K "added")) := gl _ (by simp [gloNames])
  have HAd : HasAdded P w K mg base (He.ga K "Ratio") := ⟨⟨_, dadded, gadded, Fadded.kp, badded, ok_added R HAr MR RA Fadded⟩⟩
  obtain ⟨mHuuinituu, MHuuinituu⟩ := sd.def_ 12
  replace MHuuinituu : DefAt K "__init__" "HandOver.__init__" sHInit (He.ma K (He.ga K "HandOver") "__init__") mHuuinituu := MHuuinituu
  have qHuuinituu : Binds K mHuuinituu ["self", "giver", "taker", "cost", "gain"] [] := MHuuinituu.bindsN (fun _ _ _ _ _ _ us hl => match us, hl with | [_, _, _, _, _], _ => rfl)
  obtain ⟨mHreturned, MHreturned⟩ := sd.def_ 13
  replace MHreturned : DefAt K "returned" "HandOver.returned" sHRet (He.ma K (He.ga K "HandOver") "returned") mHreturned := MHreturned
  have qHreturned : Binds K mHreturned ["self"] [] := MHreturned.bindsN (fun _ _ _ _ _ _ us hl => match us, hl with | [_], _ => rfl)
  obtain ⟨mHeffect, MHeffect⟩ := sd.def_ 14
  replace MHeffect : DefAt K "effect" "HandOver.effect" sHEff (He.ma K (He.ga K "HandOver") "effect") mHeffect := MHeffect
  have qHeffect : Binds K mHeffect ["self", "name"] [] := MHeffect.bindsN (fun _ _ _ _ _ _ us hl => match us, hl with | [_, _], _ => rfl)
  obtain ⟨mHuuequu, MHuuequu⟩ := sd.def_ 15
  replace MHuuequu : DefAt K "__eq__" "HandOver.__eq__" sHEq (He.ma K (He.ga K "HandOver") "__eq__") mHuuequu := MHuuequu
  have qHuuequu : Binds K mHuuequu ["self", "other"] [] := MHuuequu.bindsN (fun _ _ _ _ _ _ us hl => match us, hl with | [_, _], _ => rfl)
  have MH : MkH P w K mg base (rC K) (hC K) := ⟨gH, ⟨_, mHuuinituu, fH.mkc, ok_hinit RH HNa HAm RM MHuuinituu, qHuuinituu⟩⟩
  have RT : RetM P w K mg base (rC K) (hC K) := ⟨⟨_, mHreturned, me _ (by simp), qHreturned, ok_hret RH MH MHreturned⟩⟩
  have EM : EffM P w K mg base (rC K) (hC K) := ⟨⟨_, mHeffect, me _ (by simp), qHeffect, ok_heff RH RN MR MHeffect⟩⟩
  have HE : EqO P w K mg base (hC K) 2 (spHEq (rC K) (hC K)) := ⟨⟨_, mHuuequu, ow ("HandOver", "__eq__") (by simp [ownPairs]), qHuuequu, ok_heq G RH R gH RE MHuuequu⟩, fH.nf⟩
  obtain ⟨ducheckuparties, Fucheckuparties⟩ := sd.def_ 38
  replace Fucheckuparties : DefAt K "_check_parties" "_check_parties" sParties (He.ga K "_check_parties") ducheckuparties := Fucheckuparties
  have bucheckuparties : Binds K ducheckuparties ["hand", "strangers"] [] := Fucheckuparties.bindsN (fun _ _ _ _ _ _ us hl => match us, hl with | [_, _], _ => rfl)
  have gucheckuparties : mg "_check_parties" = some (.ref (He.ga K "_check_parties")) := gl _ (by simp [gloNames])
  have HPa : HasParties P w K mg base (He.ga K "Ratio") (He.ga K "HandOver") := ⟨⟨_, ducheckuparties, gucheckuparties, Fucheckuparties.kp, bucheckuparties, ok_parties RH Fucheckuparties⟩⟩
  obtain ⟨dunetuof, Funetuof⟩ := sd.def_ 39
  replace Funetuof : DefAt K "_net_of" "_net_of" sNetOf (He.ga K "_net_of") dunetuof := Funetuof
  have bunetuof : Binds K dunetuof ["hands", "name"] [] := Funetuof.bindsN (fun _ _ _ _ _ _ us hl => match us, hl with | [_, _], _ => rfl)
  have gunetuof : mg "_net_of" = some (.ref (He.ga K "_net_of")) := gl _ (by simp [gloNames])
  have HNo : HasNetOf P w K mg base (He.ga K "Ratio") (He.ga K "HandOver") := ⟨⟨_, dunetuof, gunetuof, Funetuof.kp, bunetuof, ok_netOf RH EM HAd Funetuof⟩⟩
  obtain ⟨mSuuinituu, MSuuinituu⟩ := sd.def_ 16
  replace MSuuinituu : DefAt K "__init__" "Swap.__init__" sSInit (He.ma K (He.ga K "Swap") "__init__") mSuuinituu := MSuuinituu
  have qSuuinituu : Binds K mSuuinituu ["self", "strangers", "hands"] [] := MSuuinituu.bindsN (fun _ _ _ _ _ _ us hl => match us, hl with | [_, _, _], _ => rfl)
  obtain ⟨mSuulenuu, MSuulenuu⟩ := sd.def_ 17
  replace MSuulenuu : DefAt K "__len__" "Swap.__len__" sSLen (He.ma K (He.ga K "Swap") "__len__") mSuulenuu := MSuulenuu
  have qSuulenuu : Binds K mSuulenuu ["self"] [] := MSuulenuu.bindsN (fun _ _ _ _ _ _ us hl => match us, hl with | [_], _ => rfl)
  obtain ⟨mSuuiteruu, MSuuiteruu⟩ := sd.def_ 18
  replace MSuuiteruu : DefAt K "__iter__" "Swap.__iter__" sSIter (He.ma K (He.ga K "Swap") "__iter__") mSuuiteruu := MSuuiteruu
  have qSuuiteruu : Binds K mSuuiteruu ["self"] [] := MSuuiteruu.bindsN (fun _ _ _ _ _ _ us hl => match us, hl with | [_], _ => rfl)
  obtain ⟨mSuugetitemuu, MSuugetitemuu⟩ := sd.def_ 19
  replace MSuugetitemuu : DefAt K "__getitem__" "Swap.__getitem__" sSItem (He.ma K (He.ga K "Swap") "__getitem__") mSuugetitemuu := MSuugetitemuu
  have qSuugetitemuu : Binds K mSuugetitemuu ["self", "at"] [] := MSuugetitemuu.bindsN (fun _ _ _ _ _ _ us hl => match us, hl with | [_, _], _ => rfl)
  obtain ⟨mSuuequu, MSuuequu⟩ := sd.def_ 20
  replace MSuuequu : DefAt K "__eq__" "Swap.__eq__" sSEq (He.ma K (He.ga K "Swap") "__eq__") mSuuequu := MSuuequu
  have qSuuequu : Binds K mSuuequu ["self", "other"] [] := MSuuequu.bindsN (fun _ _ _ _ _ _ us hl => match us, hl with | [_, _], _ => rfl)
  obtain ⟨mSuuneguu, MSuuneguu⟩ := sd.def_ 21
  replace MSuuneguu : DefAt K "__neg__" "Swap.__neg__" sSNeg (He.ma K (He.ga K "Swap") "__neg__") mSuuneguu := MSuuneguu
  have qSuuneguu : Binds K mSuuneguu ["self"] [] := MSuuneguu.bindsN (fun _ _ _ _ _ _ us hl => match us, hl with | [_], _ => rfl)
  obtain ⟨mSuuadduu, MSuuadduu⟩ := sd.def_ 22
  replace MSuuadduu : DefAt K "__add__" "Swap.__add__" sSAdd (He.ma K (He.ga K "Swap") "__add__") mSuuadduu := MSuuadduu
  have qSuuadduu : Binds K mSuuadduu ["self", "other"] [] := MSuuadduu.bindsN (fun _ _ _ _ _ _ us hl => match us, hl with | [_, _], _ => rfl)
  have MS : MkS P w K mg base (rC K) (hC K) (sC K) (He.ga K "TooMany") := ⟨gS, ⟨_, mSuuinituu, fS.mkc, ok_sinit G RS RH gS gH HNs HLi HTS HPa HNo B MSuuinituu, qSuuinituu⟩⟩
  have LO : LenO P w K mg base (rC K) (hC K) (sC K) := ⟨⟨_, mSuulenuu, ow ("Swap", "__len__") (by simp [ownPairs]), qSuulenuu, ok_slen G RS MSuulenuu⟩⟩
  have IO : IterO P w K mg base (sC K) := iterO_of G RS MSuuiteruu (ow ("Swap", "__iter__") (by simp [ownPairs])) qSuuiteruu
  have IT : ItemO P w K mg base (rC K) (hC K) (sC K) := ⟨⟨_, mSuugetitemuu, ow ("Swap", "__getitem__") (by simp [ownPairs]), fa.gi_, qSuugetitemuu, ok_sitem G RS HHa MSuugetitemuu⟩⟩
  have SE : EqO P w K mg base (sC K) 4 (spSEq (rC K) (hC K) (sC K)) := ⟨⟨_, mSuuequu, ow ("Swap", "__eq__") (by simp [ownPairs]), qSuuequu, ok_seq G RS RH gS HE MSuuequu⟩, fS.nf⟩
  have SN : Own P w K mg base (sC K) CX0 11 "__neg__" ["self"] (spSNeg (rC K) (hC K) (sC K)) := ⟨_, mSuuneguu, ow ("Swap", "__neg__") (by simp [ownPairs]), qSuuneguu, ok_sneg RS RH RT MS MSuuneguu⟩
  have SA : AddO P w K mg base (sC K) (L2.CX P w) 10 (spSAdd K (rC K) (hC K) (sC K) (He.ga K "BadSwap") (He.ga K "Unlike") (He.ga K "TooMany")) := ⟨⟨_, mSuuadduu, ow ("Swap", "__add__") (by simp [ownPairs]), qSuuadduu, ok_sadd G RS MS B MSuuadduu⟩, fa.sfS_, He.eqO_ok fa.nrS_⟩
  have NS : NeO P w K mg base (sC K) 4 (spSEq (rC K) (hC K) (sC K)) := ⟨SE, fS.ne, fS.ob⟩
  have NH : NeO P w K mg base (hC K) 2 (spHEq (rC K) (hC K)) := ⟨HE, fH.ne, fH.ob⟩
  obtain ⟨dcheckuswap, Fcheckuswap⟩ := sd.def_ 40
  replace Fcheckuswap : DefAt K "check_swap" "check_swap" sCheckSwap (He.ga K "check_swap") dcheckuswap := Fcheckuswap
  have bcheckuswap : Binds K dcheckuswap ["swap"] [] := Fcheckuswap.bindsN (fun _ _ _ _ _ _ us hl => match us, hl with | [_], _ => rfl)
  have gcheckuswap : mg "check_swap" = some (.ref (He.ga K "check_swap")) := gl _ (by simp [gloNames])
  have HCk : HasCheck P w K mg base (He.ga K "Ratio") (He.ga K "HandOver") (He.ga K "Swap") (He.ga K "BadSwap") := ⟨⟨_, dcheckuswap, gcheckuswap, Fcheckuswap.kp, bcheckuswap, ok_check G RS gS B Fcheckuswap⟩⟩
  obtain ⟨ddoneuset, Fdoneuset⟩ := sd.def_ 41
  replace Fdoneuset : DefAt K "done_set" "done_set" sDoneSet (He.ga K "done_set") ddoneuset := Fdoneuset
  have bdoneuset : Binds K ddoneuset ["swap", "done"] [] := Fdoneuset.bindsN (fun _ _ _ _ _ _ us hl => match us, hl with | [_, _], _ => rfl)
  have gdoneuset : mg "done_set" = some (.ref (He.ga K "done_set")) := gl _ (by simp [gloNames])
  have HDs : HasDoneSet P w K mg base (He.ga K "Ratio") (He.ga K "HandOver") (He.ga K "Swap") (He.ga K "BadSwap") (He.ga K "BadDone") (He.ga K "NoHand") (He.ga K "Twice") := ⟨⟨_, ddoneuset, gdoneuset, Fdoneuset.kp, bdoneuset, ok_doneSet G HCk HDo LO Fdoneuset⟩⟩
  obtain ⟨dueffectsuon, Fueffectsuon⟩ := sd.def_ 42
  replace Fueffectsuon : DefAt K "_effects_on" "_effects_on" sEffects (He.ga K "_effects_on") dueffectsuon := Fueffectsuon
  have bueffectsuon : Binds K dueffectsuon ["swap", "numbers", "name"] [] := Fueffectsuon.bindsN (fun _ _ _ _ _ _ us hl => match us, hl with | [_, _, _], _ => rfl)
  have gueffectsuon : mg "_effects_on" = some (.ref (He.ga K "_effects_on")) := gl _ (by simp [gloNames])
  have HEf : HasEffects P w K mg base (He.ga K "Ratio") (He.ga K "HandOver") (He.ga K "Swap") := ⟨⟨_, dueffectsuon, gueffectsuon, Fueffectsuon.kp, bueffectsuon, ok_effects RH IT EM HAd Fueffectsuon⟩⟩
  obtain ⟨dsums, Fsums⟩ := sd.def_ 43
  replace Fsums : DefAt K "sums" "sums" sSums (He.ga K "sums") dsums := Fsums
  have bsums : Binds K dsums ["swap", "done"] [] := Fsums.bindsN (fun _ _ _ _ _ _ us hl => match us, hl with | [_, _], _ => rfl)
  have gsums : mg "sums" = some (.ref (He.ga K "sums")) := gl _ (by simp [gloNames])
  have HSu : HasSums P w K mg base (He.ga K "Ratio") (He.ga K "HandOver") (He.ga K "Swap") := ⟨⟨_, dsums, gsums, Fsums.kp, bsums, ok_sums G RS HDs HEf Fsums⟩⟩
  obtain ⟨dhandeduback, Fhandeduback⟩ := sd.def_ 44
  replace Fhandeduback : DefAt K "handed_back" "handed_back" sBack (He.ga K "handed_back") dhandeduback := Fhandeduback
  have bhandeduback : Binds K dhandeduback ["swap"] [] := Fhandeduback.bindsN (fun _ _ _ _ _ _ us hl => match us, hl with | [_], _ => rfl)
  have ghandeduback : mg "handed_back" = some (.ref (He.ga K "handed_back")) := gl _ (by simp [gloNames])
  have HBk : HasBack P w K mg base (He.ga K "Ratio") (He.ga K "HandOver") (He.ga K "Swap") (He.ga K "BadSwap") := ⟨⟨_, dhandeduback, ghandeduback, Fhandeduback.kp, bhandeduback, ok_back HCk SN Fhandeduback⟩⟩
  obtain ⟨dportion, Fportion⟩ := sd.def_ 46
  replace Fportion : DefAt K "portion" "portion" sPortion (He.ga K "portion") dportion := Fportion
  have bportion : Binds K dportion ["swap", "done"] [] := Fportion.bindsN (fun _ _ _ _ _ _ us hl => match us, hl with | [_, _], _ => rfl)
  have gportion : mg "portion" = some (.ref (He.ga K "portion")) := gl _ (by simp [gloNames])
  have HPo : HasPor P w K mg base (He.ga K "Ratio") (He.ga K "HandOver") (He.ga K "Swap") (He.ga K "BadSwap") (He.ga K "BadDone") (He.ga K "NoHand") (He.ga K "Twice") := ⟨⟨_, dportion, gportion, Fportion.kp, bportion, ok_portion G RS MS HDs Fportion⟩⟩
  obtain ⟨doneuafter, Foneuafter⟩ := sd.def_ 45
  replace Foneuafter : DefAt K "one_after" "one_after" sOneAfter (He.ga K "one_after") doneuafter := Foneuafter
  have goneuafter : mg "one_after" = some (.ref (He.ga K "one_after")) := gl _ (by simp [gloNames])
  have FO : FnOne P w K mg base (He.ga K "Ratio") (He.ga K "HandOver") (He.ga K "Swap") (He.ga K "BadSwap") (He.ga K "Unlike") (He.ga K "TooMany") := ⟨_, goneuafter, Foneuafter.kp, ok_one G RS MS B Foneuafter⟩
  have AK : Ask P w K mg base (He.ga K "Ratio") (He.ga K "HandOver") (He.ga K "Swap") (He.ga K "BadSwap") (He.ga K "BadDone") (He.ga K "NoHand") (He.ga K "Twice") (He.ga K "Unlike") (He.ga K "TooMany") := ⟨HBk, HPo, FO, SA⟩
  obtain ⟨dulawupen, Fulawupen⟩ := sd.def_ 47
  replace Fulawupen : DefAt K "_law_pen" "_law_pen" sPen (He.ga K "_law_pen") dulawupen := Fulawupen
  have bulawupen : Binds K dulawupen ["_law_script"] [] := Fulawupen.bindsN (fun _ _ _ _ _ _ us hl => match us, hl with | [_], _ => rfl)
  have gulawupen : mg "_law_pen" = some (.ref (He.ga K "_law_pen")) := gl _ (by simp [gloNames])
  have HPen : Has P w K mg base CX0 1 "_law_pen" ["_law_script"] (spPen K) := ⟨⟨_, dulawupen, gulawupen, Fulawupen.kp, bulawupen, ok_pen G Fulawupen⟩⟩
  obtain ⟨dulawudraw, Fulawudraw⟩ := sd.def_ 48
  replace Fulawudraw : DefAt K "_law_draw" "_law_draw" sDraw (He.ga K "_law_draw") dulawudraw := Fulawudraw
  have bulawudraw : Binds K dulawudraw ["_law_pen_here", "_law_many"] [] := Fulawudraw.bindsN (fun _ _ _ _ _ _ us hl => match us, hl with | [_, _], _ => rfl)
  have gulawudraw : mg "_law_draw" = some (.ref (He.ga K "_law_draw")) := gl _ (by simp [gloNames])
  have HT : HasDraw P w K mg base := ⟨⟨_, dulawudraw, gulawudraw, Fulawudraw.kp, bulawudraw, ok_draw G Fulawudraw⟩⟩
  obtain ⟨dulawupick, Fulawupick⟩ := sd.def_ 49
  replace Fulawupick : DefAt K "_law_pick" "_law_pick" sPick (He.ga K "_law_pick") dulawupick := Fulawupick
  have bulawupick : Binds K dulawupick ["_law_pen_here", "_law_some"] [] := Fulawupick.bindsN (fun _ _ _ _ _ _ us hl => match us, hl with | [_, _], _ => rfl)
  have gulawupick : mg "_law_pick" = some (.ref (He.ga K "_law_pick")) := gl _ (by simp [gloNames])
  have HPi : HasPick P w K mg base := ⟨⟨_, dulawupick, gulawupick, Fulawupick.kp, bulawupick, ok_pick G HT Fulawupick⟩⟩
  have HPS : HasPickS P w K mg base := ⟨⟨_, dulawupick, gulawupick, Fulawupick.kp, bulawupick, ok_pickS G HT Fulawupick⟩⟩
  obtain ⟨dulawunames, Fulawunames⟩ := sd.def_ 50
  replace Fulawunames : DefAt K "_law_names" "_law_names" sNames (He.ga K "_law_names") dulawunames := Fulawunames
  have bulawunames : Binds K dulawunames ["_law_pen_here", "_law_many"] [] := Fulawunames.bindsN (fun _ _ _ _ _ _ us hl => match us, hl with | [_, _], _ => rfl)
  have gulawunames : mg "_law_names" = some (.ref (He.ga K "_law_names")) := gl _ (by simp [gloNames])
  have HLN : HasLNames P w K mg base := ⟨⟨_, dulawunames, gulawunames, Fulawunames.kp, bulawunames, ok_lnames G HT HPS Fulawunames⟩⟩
  obtain ⟨dulawurows, Fulawurows⟩ := sd.def_ 51
  replace Fulawurows : DefAt K "_law_rows" "_law_rows" sRows (He.ga K "_law_rows") dulawurows := Fulawurows
  have bulawurows : Binds K dulawurows ["_law_pen_here", "_law_strangers", "_law_many"] [] := Fulawurows.bindsN (fun _ _ _ _ _ _ us hl => match us, hl with | [_, _, _], _ => rfl)
  have gulawurows : mg "_law_rows" = some (.ref (He.ga K "_law_rows")) := gl _ (by simp [gloNames])
  have HRw : HasRows P w K mg base := ⟨⟨_, dulawurows, gulawurows, Fulawurows.kp, bulawurows, ok_rows G HT HPi Fulawurows⟩⟩
  obtain ⟨dulawuworth, Fulawuworth⟩ := sd.def_ 52
  replace Fulawuworth : DefAt K "_law_worth" "_law_worth" sWorth (He.ga K "_law_worth") dulawuworth := Fulawuworth
  have bulawuworth : Binds K dulawuworth ["_law_pen_here", "_law_sixths"] [] := Fulawuworth.bindsN (fun _ _ _ _ _ _ us hl => match us, hl with | [_, _], _ => rfl)
  have gulawuworth : mg "_law_worth" = some (.ref (He.ga K "_law_worth")) := gl _ (by simp [gloNames])
  have HWo : HasWorth P w K mg base (He.ga K "Ratio") := ⟨⟨_, dulawuworth, gulawuworth, Fulawuworth.kp, bulawuworth, ok_worth HT MR Fulawuworth⟩⟩
  obtain ⟨dulawuhands, Fulawuhands⟩ := sd.def_ 53
  replace Fulawuhands : DefAt K "_law_hands" "_law_hands" sHandsL (He.ga K "_law_hands") dulawuhands := Fulawuhands
  have bulawuhands : Binds K dulawuhands ["_law_pen_here", "_law_names_here", "_law_rows_here"] [] := Fulawuhands.bindsN (fun _ _ _ _ _ _ us hl => match us, hl with | [_, _, _], _ => rfl)
  have gulawuhands : mg "_law_hands" = some (.ref (He.ga K "_law_hands")) := gl _ (by simp [gloNames])
  have HHL : HasHandsL P w K mg base (He.ga K "Ratio") (He.ga K "HandOver") := ⟨⟨_, dulawuhands, gulawuhands, Fulawuhands.kp, bulawuhands, ok_handsL HWo MH Fulawuhands⟩⟩
  obtain ⟨dulawuline, Fulawuline⟩ := sd.def_ 54
  replace Fulawuline : DefAt K "_law_line" "_law_line" sLine (He.ga K "_law_line") dulawuline := Fulawuline
  have bulawuline : Binds K dulawuline ["_law_strangers", "_law_rows_here"] [] := Fulawuline.bindsN (fun _ _ _ _ _ _ us hl => match us, hl with | [_, _], _ => rfl)
  have gulawuline : mg "_law_line" = some (.ref (He.ga K "_law_line")) := gl _ (by simp [gloNames])
  have HLn : HasLine P w K mg base := ⟨⟨_, dulawuline, gulawuline, Fulawuline.kp, bulawuline, ok_line Fulawuline⟩⟩
  obtain ⟨dulawuis, Fulawuis⟩ := sd.def_ 55
  replace Fulawuis : DefAt K "_law_is" "_law_is" sIs (He.ga K "_law_is") dulawuis := Fulawuis
  have bulawuis : Binds K dulawuis ["_law_value", "_law_sixths"] [] := Fulawuis.bindsN (fun _ _ _ _ _ _ us hl => match us, hl with | [_, _], _ => rfl)
  have gulawuis : mg "_law_is" = some (.ref (He.ga K "_law_is")) := gl _ (by simp [gloNames])
  have HIs : HasIs P w K mg base (He.ga K "Ratio") := ⟨⟨_, dulawuis, gulawuis, Fulawuis.kp, bulawuis, ok_is G R gR Fulawuis⟩⟩
  obtain ⟨dulawuisuline, Fulawuisuline⟩ := sd.def_ 56
  replace Fulawuisuline : DefAt K "_law_is_line" "_law_is_line" sIsLine (He.ga K "_law_is_line") dulawuisuline := Fulawuisuline
  have bulawuisuline : Binds K dulawuisuline ["_law_value", "_law_line_here"] [] := Fulawuisuline.bindsN (fun _ _ _ _ _ _ us hl => match us, hl with | [_, _], _ => rfl)
  have gulawuisuline : mg "_law_is_line" = some (.ref (He.ga K "_law_is_line")) := gl _ (by simp [gloNames])
  have HIL : HasIsLine P w K mg base (He.ga K "Ratio") := ⟨⟨_, dulawuisuline, gulawuisuline, Fulawuisuline.kp, bulawuisuline, ok_isline G HIs Fulawuisuline⟩⟩
  obtain ⟨dulawuhas, Fulawuhas⟩ := sd.def_ 57
  replace Fulawuhas : DefAt K "_law_has" "_law_has" sHas (He.ga K "_law_has") dulawuhas := Fulawuhas
  have bulawuhas : Binds K dulawuhas ["_law_swap", "_law_names_here", "_law_rows_here"] [] := Fulawuhas.bindsN (fun _ _ _ _ _ _ us hl => match us, hl with | [_, _, _], _ => rfl)
  have gulawuhas : mg "_law_has" = some (.ref (He.ga K "_law_has")) := gl _ (by simp [gloNames])
  have HHas : HasHas P w K mg base (He.ga K "Ratio") (He.ga K "HandOver") (He.ga K "Swap") := ⟨⟨_, dulawuhas, gulawuhas, Fulawuhas.kp, bulawuhas, ok_has G RS RH gS IO LO HIs HIL HLn Fulawuhas⟩⟩
  obtain ⟨dulawuback, Fulawuback⟩ := sd.def_ 58
  replace Fulawuback : DefAt K "_law_back" "_law_back" sLBack (He.ga K "_law_back") dulawuback := Fulawuback
  have bulawuback : Binds K dulawuback ["_law_rows_here"] [] := Fulawuback.bindsN (fun _ _ _ _ _ _ us hl => match us, hl with | [_], _ => rfl)
  have gulawuback : mg "_law_back" = some (.ref (He.ga K "_law_back")) := gl _ (by simp [gloNames])
  have HLB : HasLBack P w K mg base := ⟨⟨_, dulawuback, gulawuback, Fulawuback.kp, bulawuback, ok_lback Fulawuback⟩⟩
  obtain ⟨dulawubackuright, Fulawubackuright⟩ := sd.def_ 59
  replace Fulawubackuright : DefAt K "_law_back_right" "_law_back_right" sBackRight (He.ga K "_law_back_right") dulawubackuright := Fulawubackuright
  have bulawubackuright : Binds K dulawubackuright ["_law_pen_here", "_law_swap", "_law_names_here", "_law_rows_here"] [] := Fulawubackuright.bindsN (fun _ _ _ _ _ _ us hl => match us, hl with | [_, _, _, _], _ => rfl)
  have gulawubackuright : mg "_law_back_right" = some (.ref (He.ga K "_law_back_right")) := gl _ (by simp [gloNames])
  have HBR : HasBackR P w K mg base (He.ga K "Ratio") (He.ga K "HandOver") (He.ga K "Swap") := ⟨⟨_, dulawubackuright, gulawubackuright, Fulawubackuright.kp, bulawubackuright, ok_backR G RS RH RT SN NS NH HT HBk HHas HLB HIL HLn HSu Fulawubackuright⟩⟩
  obtain ⟨dulawuportionuright, Fulawuportionuright⟩ := sd.def_ 60
  replace Fulawuportionuright : DefAt K "_law_portion_right" "_law_portion_right" sPortionRight (He.ga K "_law_portion_right") dulawuportionuright := Fulawuportionuright
  have bulawuportionuright : Binds K dulawuportionuright ["_law_pen_here", "_law_swap", "_law_names_here", "_law_rows_here"] [] := Fulawuportionuright.bindsN (fun _ _ _ _ _ _ us hl => match us, hl with | [_, _, _, _], _ => rfl)
  have gulawuportionuright : mg "_law_portion_right" = some (.ref (He.ga K "_law_portion_right")) := gl _ (by simp [gloNames])
  have HPR : HasPorR P w K mg base (He.ga K "Ratio") (He.ga K "HandOver") (He.ga K "Swap") := ⟨⟨_, dulawuportionuright, gulawuportionuright, Fulawuportionuright.kp, bulawuportionuright, ok_porR G RS MS NS HT HPo HHas Fulawuportionuright⟩⟩
  obtain ⟨dulawuheard, Fulawuheard⟩ := sd.def_ 61
  replace Fulawuheard : DefAt K "_law_heard" "_law_heard" sHeard (He.ga K "_law_heard") dulawuheard := Fulawuheard
  have bulawuheard : Binds K dulawuheard ["_law_ask"] [] := Fulawuheard.bindsN (fun _ _ _ _ _ _ us hl => match us, hl with | [_], _ => rfl)
  have gulawuheard : mg "_law_heard" = some (.ref (He.ga K "_law_heard")) := gl _ (by simp [gloNames])
  have HF : HasHeard K mg (He.ga K "LastError") (He.ga K "BadSwap") (He.ga K "BadDone") (He.ga K "NoHand") (He.ga K "Twice") (He.ga K "Unlike") (He.ga K "TooMany") := ⟨⟨_, dulawuheard, gulawuheard, Fulawuheard⟩, HD_⟩
  obtain ⟨dulawurefuseduright, Fulawurefuseduright⟩ := sd.def_ 62
  replace Fulawurefuseduright : DefAt K "_law_refused_right" "_law_refused_right" sRefused (He.ga K "_law_refused_right") dulawurefuseduright := Fulawurefuseduright
  have bulawurefuseduright : Binds K dulawurefuseduright ["_law_pen_here", "_law_swap", "_law_names_here", "_law_rows_here"] [] := Fulawurefuseduright.bindsN (fun _ _ _ _ _ _ us hl => match us, hl with | [_, _, _, _], _ => rfl)
  have gulawurefuseduright : mg "_law_refused_right" = some (.ref (He.ga K "_law_refused_right")) := gl _ (by simp [gloNames])
  have HRf : HasRefR P w K mg base (TT K) (He.ga K "Ratio") (He.ga K "HandOver") (He.ga K "Swap") := ⟨⟨_, dulawurefuseduright, gulawurefuseduright, Fulawurefuseduright.kp, bulawurefuseduright, ok_ref G OD RS MS MH LO AK HT HPi HF TB (.head _) u1 (defC_of Fulawurefuseduright)⟩⟩
  obtain ⟨dlaw, Flaw⟩ := sd.def_ 63
  replace Flaw : DefAt K "law" "law" sLaw (He.ga K "law") dlaw := Flaw
  have blaw : Binds K dlaw ["_law_script"] [] := Flaw.bindsN (fun _ _ _ _ _ _ us hl => match us, hl with | [_], _ => rfl)
  have glaw : mg "law" = some (.ref (He.ga K "law")) := gl _ (by simp [gloNames])
  exact ⟨dlaw, Flaw, ok_law5 G RS MS SN NS SA FO HPen HT HLN HRw HHL HBR HPR HHas HRf Flaw⟩
end
end K5

namespace K5
open PySem PySem.Spec PyProof.Rows L2 LamX K1 K18
theorem factAll_ok {K : PySem.W.Frag} (h : factAll K = true) : Facts K := by
  obtain ⟨a0, h⟩ := He.ba h
  obtain ⟨a1, h⟩ := He.ba h
  obtain ⟨a2, h⟩ := He.ba h
  obtain ⟨a3, h⟩ := He.ba h
  obtain ⟨a4, a5⟩ := He.ba h
  exact facts_of a0 a1 a2 a3 a4 a5
/-- a table of lambdas, empty yet -/
structure TabF (K : PySem.W.Frag) (h : Heap) (c T : Addr) : Prop where
  hd : PySem.W.codeHdIn K c T = true
  no : K.lookup T = none
  at_ : h.get? T = some { cls := .none, data := .fields #[] }
theorem tab1_ok {h : Heap} {l : List Addr} {c T : Addr} (e : tab1 h.get? (He.frT h.get? l) c T = true) : TabF (He.frT h.get? l) h c T := by
  obtain ⟨h1, h2⟩ := He.ba e
  cases q : h.get? T with
  | none => rw [q] at h2; cases h2
  | some o =>
    rw [q] at h2
    exact ⟨h1, He.frT_none q h2, by rw [q, He.emptyTab_eq h2]⟩
/-- what the opened module tells, of its objects and of the tables -/
def Told1 (h : Heap) : Prop := ∃ K : PySem.W.Frag, K.In h ∧ Facts K ∧ He5.SaysA [] fns K ∧ TabF K h (cR K) (tR K)
theorem told1_of {h : Heap} (e1 : factAll (He.frT h.get? adl) = true) (e2 : He5.obsA [] fns (He.frT h.get? adl) = He5.valA fns) (e3 : tabE h.get? (He.frT h.get? adl) = true) : Told1 h := by
  exact ⟨_, He.frT_in, factAll_ok e1, e2, tab1_ok e3⟩
def hk : PySem.W.Hook where
  α := Bool × He.AlD × Bool
  obs := fun s => (factAll (He.frT s.heap.get? adl), He5.obsA [] fns (He.frT s.heap.get? adl), tabE s.heap.get? (He.frT s.heap.get? adl))
  val := fun _ => (true, He5.valA fns, true)
  says := fun _ h => Told1 h
  of := fun _ _ e => told1_of (congrArg (fun z : Bool × He.AlD × Bool => z.1) e) (congrArg (fun z : Bool × He.AlD × Bool => z.2.1) e) (congrArg (fun z : Bool × He.AlD × Bool => z.2.2) e)
  keeps := fun _ _ _ ⟨K, hK, c1, c2, c3⟩ k => ⟨K, PySem.W.Frag.In.keeps hK k, c1, c2, ⟨c3.hd, c3.no, k _ _ c3.at_⟩⟩
def ob (s : PySem.W.SharedT) : Bool × He.AlD × Bool := (factAll (oF s), He5.obsA [] fns (oF s), tabE (HandSHeadRun.getT s) (oF s))
theorem ob_eq (s : PySem.W.SharedT) : ob s = hk.obs s.abs := by
  have e : HandSHeadRun.getT s = s.abs.heap.get? := funext (HandSHeadRun.getT_eq s)
  unfold ob oF
  rw [e]
  rfl
theorem run (w : World) : HandSHeadRun.RunEqI RR (PySem.W.view RR.prog [0, 80]) hk ob 40000 loose w := by
  unfold HandSHeadRun.RunEqI
  exact runAll w
/-- the walk's end, with some tables -/
theorem walkT {l : PySem.W.OpenLaw} {n k : Nat} {q : Program} {loose : List Str} {XP : (Str → Option Value) → Heap → Prop} {YP : World → Heap → Prop} {d : DefRec} {x : Str}
    (m1 : l.most = some n) (m2 : n ≤ sizeLine) (m3 : d.params.defaults = []) (m4 : Room k callerA)
    (F : ∀ (w : World) (mg : Str → Option Value) (fa : Addr) (h : Heap), YP w h → h.Ns mainGlobals mg → mg d.name = some (.ref fa) →
      ∃ (K : PySem.W.Frag) (fd : FuncData) (sp : Sp) (cs : List (Addr × Addr)), K.In h ∧ (∀ p ∈ cs, h.get? p.2 = some { cls := .none, data := .fields #[] }) ∧ (∀ p ∈ cs, K.lookup p.2 = none) ∧ (∀ p ∈ cs, PySem.W.CodeHd h p.1 p.2) ∧ (∀ (s : Shared) (u : Value), BindsTo s fd ⟨[u], []⟩ [(x, u)]) ∧
        (∀ (H : Hp) (a : Addr) (ns : List Int), ns.length ≤ n → (∀ p ∈ cs, H p.2 = some (.tbl #[])) → SqL K H a (ns.map V.int) → sp [.ref a] H (fun v _ => v = .bl true) fun _ _ _ => False) ∧
        ∀ base : Heap, K.In base → base.Ns mainGlobals mg → (∀ p ∈ cs, TabB base mg p.1 p.2) → FnOk l.prog w K mg base CX0 k fa fd [x] sp) :
    PySem.W.WalkO q loose XP YP l.row.toRowW d [] (fun f vs => PySem.call f vs) := by
  refine Att.attach_call m1 m3 fun w u0 u1 mg mb fa ob pm cd doc aa vs ns GG YY g1 g2 g3 g4 g5 g6 g7 g8 => ?_
  obtain ⟨K, fd, sp, cs, k1, k2, k3, k4, k5, k6, k7⟩ := F w mg fa _ YY GG.T.g g4
  exact law_callTs (cs := cs) k1 GG.T.g GG.T.b GG.T.builtins GG.T.nolimit g8 k2 k3 k4 GG.T.bmain g5 g6 (Nat.le_trans g7 m2) m4 (fun bb b1 b2 b3 => k7 bb b1 b2 b3) k5 (fun HH tt ss => k6 HH aa ns g7 tt ss) fun _ _ _ z => z.elim
theorem ends5 {l : PySem.W.OpenLaw} {w : World} {mg : Str → Option Value} {fa : Addr} {h : Heap} (t : Told1 h) (Nh : h.Ns mainGlobals mg) (em : mg ("law" : Str) = some (.ref fa)) :
    ∃ (K : PySem.W.Frag) (fd : FuncData) (sp : Sp) (cs : List (Addr × Addr)), K.In h ∧ (∀ p ∈ cs, h.get? p.2 = some { cls := .none, data := .fields #[] }) ∧ (∀ p ∈ cs, K.lookup p.2 = none) ∧ (∀ p ∈ cs, PySem.W.CodeHd h p.1 p.2) ∧ (∀ (s : Shared) (u : Value), BindsTo s fd ⟨[u], []⟩ [("_law_script", u)]) ∧
        (∀ (H : Hp) (a : Addr) (ns : List Int), ns.length ≤ 63 → (∀ p ∈ cs, H p.2 = some (.tbl #[])) → SqL K H a (ns.map V.int) → sp [.ref a] H (fun v _ => v = .bl true) fun _ _ _ => False) ∧
        ∀ base : Heap, K.In base → base.Ns mainGlobals mg → (∀ p ∈ cs, TabB base mg p.1 p.2) → FnOk l.prog w K mg base CX0 16 fa fd ["_law_script"] sp := by
  obtain ⟨K, c1, c2, c3, t1⟩ := t
  have eg : mg ("law" : Str) = some (.ref (He.ga K "law")) := PySem.W.mg_of c1 Nh (He.eqO_ok (List.all_eq_true.mp c2.glo_ "law" (by simp [gloNames])))
  obtain rfl : He.ga K "law" = fa := by
    rw [eg] at em
    exact Value.ref.inj (Option.some.inj em)
  obtain ⟨fd, FL⟩ := c3.def_ 63
  replace FL : DefAt K "law" "law" sLaw (He.ga K "law") fd := FL
  have bL := FunD.bindsA (ps := ["_law_script"]) FL fun _ _ _ _ _ _ us hl => match us, hl with | [_], _ => rfl
  have each : ∀ {φ : Addr × Addr → Prop}, φ (cR K, tR K) → ∀ p ∈ [(cR K, tR K)], φ p := fun h1 p hp => by
    rw [List.mem_singleton.mp hp]; exact h1
  refine ⟨K, fd, spLaw K (TT K), [(cR K, tR K)], c1, each t1.at_, each t1.no, each (PySem.W.codeHd_of_K c1 t1.hd), fun s u => bL s [u] rfl, fun H a ns z1 z2 z3 => ⟨a, ns, rfl, z3, z1, fun p hp => ?_, fun _ => rfl⟩, fun base XB NB TB => ?_⟩
  · have y1 := z2 (cR K, tR K) (.head _)
    rw [List.mem_singleton.mp hp]; exact TabS.nil y1
  · obtain ⟨fd2, FL2, ok⟩ := law_in (P := l.prog) (w := w) XB NB c2 c3 (TB (cR K, tR K) (.head _))
    obtain ⟨oc, od, dV, kV, doc, pm, an, cdv, ct, osl, e1, l1, _⟩ := FL.ex
    obtain ⟨oc2, od2, dV2, kV2, doc2, pm2, an2, cdv2, ct2, osl2, e2, l2, _⟩ := FL2.ex
    have e3 : fd2 = fd := by
      rw [l1] at l2
      injection l2 with l2
      injection l2 with _ _ l3 _
      injection l3 with l3
      exact l3.symm
    rw [← e3]
    exact ok
end K5
open PySem PySem.W PySem.Calls PyProof.Rows
theorem PySem.Challenge.cw_lastgiver_k05_handed_back_one_after_port_holds : PySem.Challenge.rw_lastgiver_k05_handed_back_one_after_port.Holds := by
  w_on; o_law
  refine HandSHeadRun.head_imp (r := K5.RR) (q := view K5.RR.prog [0, 80]) (H := K5.hk) (ob := K5.ob) (M := 40000) (loose := K5.loose) (d := HandSHeadRun.topDef K5.RR.prog 80) (kwd := []) K5.ob_eq
    K5.run (by kernel_rfl) (by kernel_rfl) (by kernel_rfl) (by rfl) (by first | assumption | decide +kernel) (by decide +kernel) ⟨rfl, rfl, rfl, rfl, rfl, by decide +kernel⟩ ?hw ?hc
  case hw => w_witness2
  case hc =>
    refine K5.walkT (l := PySem.Challenge.rw_lastgiver_k05_handed_back_one_after_port) (n := 63) (k := 16) (x := "_law_script") rfl (by decide) (by kernel_rfl) ⟨rfl, by decide, by decide⟩ ?F
    intro w mg fa h Y Nh em
    have en : (HandSHeadRun.topDef K5.RR.prog 80).name = ("law" : PySem.Str) := by kernel_rfl
    rw [en] at em
    exact K5.ends5 (l := PySem.Challenge.rw_lastgiver_k05_handed_back_one_after_port) Y Nh em
